import PyProof.Rows.All
import Wide.All
import OpenK.AllK
import Wide.FinOn
import Lean
import PyProof.EqAt
import PyProof.EqKinds
import PyProof.TupleCall
import PySem.Challenge.RW_logloom_k26_whole_equal_machines
set_option Elab.async false
set_option linter.all false
set_option maxRecDepth 100000

namespace L2
open PySem PySem.Spec PyProof.Rows


abbrev Key := Sum Int Str
def keyIs : Key → Value → Bool
  | .inl k, v => Value.isInt k v
  | .inr x, v => Value.isStrOf x v
def keyH (w : World) : Key → Int
  | .inl k => hashInt k
  | .inr x => hashStr w x
theorem keyIs_shape : ∀ {k : Key} {v : Value}, keyIs k v = true → (∃ i t, k = Sum.inl i ∧ v = Value.int i t) ∨ (∃ x t, k = Sum.inr x ∧ v = Value.str x t)
  | .inl i, v, h => by
    obtain ⟨t, e⟩ := Value.isInt_shape (k := i) (v := v) h
    exact .inl ⟨i, t, rfl, e⟩
  | .inr x, v, h => by
    obtain ⟨t, e⟩ := Value.isStrOf_shape (x := x) (v := v) h
    exact .inr ⟨x, t, rfl, e⟩
theorem keyIs_int (i : Int) (t : Tok) : keyIs (.inl i) (.int i t) = true := by simp [keyIs, Value.isInt]
theorem keyIs_str (x : Str) (t : Tok) : keyIs (.inr x) (.str x t) = true := by simp [keyIs, Value.isStrOf]
theorem key_ll (a b : Int) : decide ((Sum.inl a : Key) = Sum.inl b) = (a == b) := by
  by_cases e : a = b
  · subst e; simp
  · have h : ¬ (Sum.inl a : Key) = Sum.inl b := fun q => e (Sum.inl.inj q)
    rw [decide_eq_false h]
    exact (beq_eq_false_iff_ne.mpr e).symm
theorem key_rr (a b : Str) : decide ((Sum.inr a : Key) = Sum.inr b) = decide (a = b) := by
  by_cases e : a = b
  · subst e; simp
  · have h : ¬ (Sum.inr a : Key) = Sum.inr b := fun q => e (Sum.inr.inj q)
    rw [decide_eq_false h, decide_eq_false e]
theorem key_lr (a : Int) (b : Str) : decide ((Sum.inl a : Key) = Sum.inr b) = false := decide_eq_false (fun q => nomatch q)
theorem key_rl (a : Str) (b : Int) : decide ((Sum.inr a : Key) = Sum.inl b) = false := decide_eq_false (fun q => nomatch q)

def mixKind (prog : Program) (w : World) : PySem.KeyKind prog w Key where
  is := keyIs
  hash := keyH w
  inj := fun v a b ha hb => by
    rcases keyIs_shape ha with ⟨i, t, rfl, rfl⟩ | ⟨x, t, rfl, rfl⟩
    · rcases keyIs_shape hb with ⟨j, u, rfl, e⟩ | ⟨y, u, rfl, e⟩
      · injection e with e1 _; rw [e1]
      · exact nomatch e
    · rcases keyIs_shape hb with ⟨j, u, rfl, e⟩ | ⟨y, u, rfl, e⟩
      · exact nomatch e
      · injection e with e1 _; rw [e1]
  byValue := fun k v h => by
    rcases keyIs_shape h with ⟨i, t, rfl, rfl⟩ | ⟨x, t, rfl, rfl⟩ <;> rfl
  pyHash := fun hv h => by
    rcases keyIs_shape hv with ⟨i, t, rfl, rfl⟩ | ⟨x, t, rfl, rfl⟩
    · exact wpAny_pyHash_int h
    · exact wpAny_pyHash_str h
  eqBool := fun hu hv h => by
    rcases keyIs_shape hu with ⟨i, t, rfl, rfl⟩ | ⟨x, t, rfl, rfl⟩
    · rcases keyIs_shape hv with ⟨j, u, rfl, rfl⟩ | ⟨y, u, rfl, rfl⟩
      · rw [key_ll] at h; exact wpAny_eqBool_int h
      · rw [key_lr] at h; exact SeqAt.EqAt.int_str i t y u _ _ _ _ h
    · rcases keyIs_shape hv with ⟨j, u, rfl, rfl⟩ | ⟨y, u, rfl, rfl⟩
      · rw [key_rl] at h; exact SeqAt.EqAt.str_int x t j u _ _ _ _ h
      · rw [key_rr] at h; exact wpAny_eqBool_str h
  «strs» := fun k x t v h => by
    rcases keyIs_shape h with ⟨i, u, rfl, e⟩ | ⟨y, u, rfl, e⟩
    · exact nomatch e
    · injection e with e1 _
      subst e1
      cases v <;> rfl

theorem mixKind_int (prog : Program) (w : World) (i : Int) (t : Tok) : (mixKind prog w).is (.inl i) (.int i t) = true := keyIs_int i t
theorem mixKind_str (prog : Program) (w : World) (x : Str) (t : Tok) : (mixKind prog w).is (.inr x) (.str x t) = true := keyIs_str x t
end L2

namespace L2
open PySem PySem.Spec PyProof.Rows


inductive V where
  | non | bl (b : Bool) | int (i : Int) | str (x : Str) | byt (b : Array UInt8) | flt (b : UInt64) | ref (a : Addr) | ty (n : String)
  deriving DecidableEq

def RelV : V → Value → Prop
  | .non, u => u = Value.none
  | .bl b, u => u = Value.bool b
  | .int i, u => ∃ t, u = Value.int i t
  | .str x, u => ∃ t, u = Value.str x t
  | .byt b, u => ∃ t, u = Value.bytes b t
  | .flt b, u => ∃ t, u = Value.float b t
  | .ref a, u => u = Value.ref a
  | .ty n, u => u = Value.type n

abbrev Vals : List V → List Value → Prop := Paired RelV
theorem Vals.length {xs : List V} {us : List Value} (r : Vals xs us) : xs.length = us.length := Paired.length r
theorem Vals.get : ∀ {xs : List V} {us : List Value} {i : Nat} {x : V}, Vals xs us → xs[i]? = some x → ∃ u, us[i]? = some u ∧ RelV x u
  | _, _, _, _, .nil, e => by simp at e
  | _, _, 0, _, .cons r _, e => by simp at e; subst e; exact ⟨_, rfl, r⟩
  | _, _, i + 1, x, .cons _ t, e => by
    obtain ⟨u, h1, h2⟩ := Vals.get (i := i) (x := x) t (by simpa using e)
    exact ⟨u, by simpa using h1, h2⟩
theorem Vals.append : ∀ {xs ys : List V} {us ws : List Value}, Vals xs us → Vals ys ws → Vals (xs ++ ys) (us ++ ws)
  | _, _, _, _, .nil, s => s
  | _, _, _, _, .cons r t, s => .cons r (Vals.append t s)
theorem Vals.take : ∀ {xs : List V} {us : List Value} (n : Nat), Vals xs us → Vals (xs.take n) (us.take n)
  | _, _, 0, _ => .nil
  | _, _, _ + 1, .nil => .nil
  | _, _, n + 1, .cons r t => .cons r (Vals.take n t)
theorem Vals.drop : ∀ {xs : List V} {us : List Value} (n : Nat), Vals xs us → Vals (xs.drop n) (us.drop n)
  | _, _, 0, r => r
  | _, _, _ + 1, .nil => .nil
  | _, _, n + 1, .cons _ t => Vals.drop n t
def RelO : Option V → Option Value → Prop
  | some v, some u => RelV v u
  | none, none => True
  | _, _ => False
def KV {κ : Type} : List (κ × V) → List (κ × Value) → Prop := Paired fun (p : κ × V) (q : κ × Value) => p.1 = q.1 ∧ RelV p.2 q.2


def kV : Key → V
  | .inl i => .int i
  | .inr x => .str x


inductive HO where
  
  | lst (xs : List V)
  
  | tup (xs : List V)
  
  | dK (kvs : List (Key × V)) | dT (kvs : List (List Key × V))
  
  | set (S : Int → Bool) (n : Nat)
  
  | ins (C dx : Addr) (fs : List (Str × V))
  
  | own (x : Addr)
  
  | xd (fs : List (Str × V))
  
  | met (f x : Addr)
  
  | rng (lo hi : Int)
  
  | frz (o : Obj) (u : HO)
  
  | tbl (ps : Array Value)
  
  | ext (φ : Heap → Prop)

abbrev Hp := Addr → Option HO
def upd (H : Hp) (a : Addr) (o : HO) : Hp := fun b => if b = a then some o else H b
theorem upd_same {H : Hp} {a : Addr} {o : HO} : upd H a o a = some o := by unfold upd; rw [if_pos rfl]
theorem upd_ne {H : Hp} {a b : Addr} {o : HO} (h : b ≠ a) : upd H a o b = H b := by unfold upd; rw [if_neg h]
theorem upd_upd {H : Hp} {a : Addr} {o u : HO} : upd (upd H a o) a u = upd H a u := by
  funext b; unfold upd; split <;> rfl

theorem ne_of {H : Hp} {a b : Addr} {o u : HO} (h : H a = some o) (h' : H b = some u) (d : o ≠ u) : a ≠ b := by
  intro e; subst e; rw [h] at h'; exact d (Option.some.inj h')
theorem ne_of_none {H : Hp} {a b : Addr} {o : HO} (h : H a = some o) (h' : H b = none) : a ≠ b := by
  intro e; subst e; rw [h] at h'; cases h'

section
variable (P : Program) (w : World)
def ObjOk (H : Hp) (h : Heap) (a : Addr) : HO → Prop
  | .lst xs => xs.length ≤ sizeLine ∧ ∃ (its : List Value) (n : Nat), Vals xs its ∧ h.get? a = some { cls := .type "list", data := .seq its.toArray n }
  | .tup xs => xs.length ≤ sizeLine ∧ ∃ its : List Value, Vals xs its ∧ IsTup h a its.toArray
  | .dK kvs => kvs.length ≤ sizeLine ∧ (a == sysModules) = false ∧ ∃ vs, KV kvs vs ∧ h.DictOf (mixKind P w) a vs
  | .dT kvs => kvs.length ≤ sizeLine ∧ (a == sysModules) = false ∧ ∃ xs : List (List Key × Addr × Value),
      Paired (fun (p : List Key × V) (q : List Key × Addr × Value) => p.1 = q.1 ∧ H q.2.1 = some (.tup (p.1.map kV)) ∧ RelV p.2 q.2.2) kvs xs ∧
      ∃ o es ep, h.get? a = some o ∧ o.ExactDict ∧ o.data = .dict es ep ∧ es.toList = xs.map (entryOfKey (tupleKind (mixKind P w))) ∧ (xs.map (·.1)).Nodup
  | .set S n => h.SetOf (intKind P w) a S n
  | .ins C dx fs => H dx = some (.own a) ∧ fs.length ≤ 1000 ∧ dx ≠ a ∧ h.get? a = some (PySem.W.instObj C dx) ∧
      ∃ mA, h.Ns1 dx mA ∧ (∀ f, RelO (fs.lookup f) (mA f)) ∧ PySem.Within mA (fs.map (·.1))
  | .own _ => ∃ o, h.get? a = some o
  | .xd fs => ∃ mA, h.Ns1 a mA ∧ ∀ f, RelO (fs.lookup f) (mA f)
  | .rng lo hi => ∃ t u v, h.get? a = some { cls := .type "range", data := .fields #[.int lo t, .int hi u, .int 1 v] }
  | .frz o u => h.get? a = some o ∧ ObjOk H h a u
  | .tbl ps => h.get? a = some { cls := .none, data := .fields ps }
  | .met f x => h.get? a = some (PySem.W.methodObj (.ref f) (.ref x))
  | .ext φ => φ h ∧ (∃ o, h.get? a = some o) ∧ ∀ h1 h2 : Heap, φ h1 → (∀ o, h1.get? a = some o → h2.get? a = some o) → φ h2

def HOk (H : Hp) (h : Heap) : Prop := ∀ a o, H a = some o → ObjOk P w H h a o
end

section
variable {P : Program} {w : World} {H H' : Hp} {h h' : Heap} {a : Addr} {o : HO}
theorem ObjOk.lt (x : ObjOk P w H h a o) : a < h.objs.size := by
  cases o with
  | lst xs => obtain ⟨_, _, _, _, e⟩ := x; exact Heap.lt_size e
  | tup xs => obtain ⟨_, _, _, p⟩ := x; exact p.lt
  | dK kvs => obtain ⟨_, _, _, _, o, _, _, e, _⟩ := x; exact Heap.lt_size e
  | dT kvs => obtain ⟨_, _, _, _, o, _, _, e, _⟩ := x; exact Heap.lt_size e
  | set S n => obtain ⟨o, _, _, _, e, _⟩ := x; exact Heap.lt_size e
  | ins C dx fs => obtain ⟨_, _, _, e, _⟩ := x; exact Heap.lt_size e
  | own y => obtain ⟨_, e⟩ := x; exact Heap.lt_size e
  | xd fs => obtain ⟨_, ⟨_, _, _, e, _⟩, _⟩ := x; exact Heap.lt_size e
  | rng lo hi => obtain ⟨_, _, _, e⟩ := x; exact Heap.lt_size e
  | frz ob u => obtain ⟨e, _⟩ := x; exact Heap.lt_size e
  | tbl ps => exact Heap.lt_size (show h.get? a = some _ from x)
  | met f y => exact Heap.lt_size (show h.get? a = some _ from x)
  | ext φ => obtain ⟨_, ⟨_, e⟩, _⟩ := x; exact Heap.lt_size e
theorem Paired.mapP {α β : Type} {F G : α → β → Prop} : ∀ {l₁ : List α} {l₂ : List β}, Paired F l₁ l₂ → (∀ a b, F a b → G a b) → Paired G l₁ l₂
  | _, _, .nil, _ => .nil
  | _, _, .cons r t, f => .cons (f _ _ r) (Paired.mapP t f)
theorem ObjOk.stay (x : ObjOk P w H h a o) (k : ∀ b u, (b = a ∨ H b = some (.own a)) → h.get? b = some u → h'.get? b = some u)
    (ho : ∀ b, H b = some (.own a) → H' b = some (.own a)) (ht : ∀ b xs, H b = some (.tup xs) → H' b = some (.tup xs)) : ObjOk P w H' h' a o := by
  induction o with
  | lst xs => obtain ⟨z, its, n, r, e⟩ := x; exact ⟨z, its, n, r, k _ _ (.inl rfl) e⟩
  | tup xs => obtain ⟨z, its, r, ob, e, c⟩ := x; exact ⟨z, its, r, ob, k _ _ (.inl rfl) e, c⟩
  | dK kvs => obtain ⟨z, y, vs, r, ob, es, ep, e, c⟩ := x; exact ⟨z, y, vs, r, ob, es, ep, k _ _ (.inl rfl) e, c⟩
  | dT kvs =>
    obtain ⟨z, y, xs, r, ob, es, ep, e, c⟩ := x
    exact ⟨z, y, xs, Paired.mapP r fun p q z => ⟨z.1, ht _ _ z.2.1, z.2.2⟩, ob, es, ep, k _ _ (.inl rfl) e, c⟩
  | set S n => obtain ⟨ob, es, ep, t, e, c⟩ := x; exact ⟨ob, es, ep, t, k _ _ (.inl rfl) e, c⟩
  | ins C dx fs =>
    obtain ⟨d, z, ne, e, mA, ⟨od, es, ep, e2, c⟩, r⟩ := x
    exact ⟨ho _ d, z, ne, k _ _ (.inl rfl) e, mA, ⟨od, es, ep, k _ _ (.inr d) e2, c⟩, r⟩
  | own y => obtain ⟨ob, e⟩ := x; exact ⟨ob, k _ _ (.inl rfl) e⟩
  | xd fs => obtain ⟨mA, ⟨od, es, ep, e, c⟩, r⟩ := x; exact ⟨mA, ⟨od, es, ep, k _ _ (.inl rfl) e, c⟩, r⟩
  | rng lo hi => obtain ⟨t, u, v, e⟩ := x; exact ⟨t, u, v, k _ _ (.inl rfl) e⟩
  | frz ob u ih => obtain ⟨e, q⟩ := x; exact ⟨k _ _ (.inl rfl) e, ih q⟩
  | tbl ps =>
    have e : h.get? a = some { cls := .none, data := .fields ps } := x
    show h'.get? a = some { cls := .none, data := .fields ps }
    exact k a _ (.inl rfl) e
  | met f y =>
    have e : h.get? a = some (PySem.W.methodObj (.ref f) (.ref y)) := x
    show h'.get? a = some (PySem.W.methodObj (.ref f) (.ref y))
    exact k a _ (.inl rfl) e
  | ext φ => obtain ⟨p, ⟨o, e⟩, st⟩ := x; exact ⟨st _ _ p fun o q => k _ _ (.inl rfl) q, ⟨o, k _ _ (.inl rfl) e⟩, st⟩
theorem HOk.lt (x : HOk P w H h) (e : H a = some o) : a < h.objs.size := (x a o e).lt
theorem HOk.fresh (x : HOk P w H h) (e : h.objs.size ≤ a) : H a = none := by
  cases q : H a with
  | none => rfl
  | some u => exact absurd (Nat.lt_of_lt_of_le (x.lt q) e) (Nat.lt_irrefl _)

theorem HOk.kept (x : HOk P w H h) (k : ∀ b u, h.get? b = some u → h'.get? b = some u) : HOk P w H h' := fun a o e =>
  (x a o e).stay (fun b u _ q => k b u q) (fun _ q => q) fun _ _ q => q

theorem HOk.laid (x : HOk P w H h) (k : ∀ b u, h.get? b = some u → h'.get? b = some u) (hp : h.objs.size ≤ a) (new : ObjOk P w (upd H a o) h' a o) : HOk P w (upd H a o) h' := fun b u e => by
  have hn := x.fresh hp
  by_cases hb : b = a
  · subst hb; rw [upd_same] at e; cases e; exact new
  · rw [upd_ne hb] at e
    exact (x b u e).stay (fun c v _ q => k c v q) (fun c q => by rw [upd_ne (ne_of_none q hn)]; exact q) fun c xs q => by rw [upd_ne (ne_of_none q hn)]; exact q
end


def Rd (H : Hp) (a : Addr) (u : HO) : Prop := H a = some u ∨ ∃ o, H a = some (.frz o u)
theorem Rd.ok {P : Program} {w : World} {H : Hp} {h : Heap} {a : Addr} {u : HO} (r : Rd H a u) (x : HOk P w H h) : ObjOk P w H h a u := by
  rcases r with r | ⟨o, r⟩
  · exact x a u r
  · obtain ⟨_, q⟩ := x a _ r
    exact q

def Mut : Option HO → Prop
  | some (.lst _) => True
  | some (.dK _) => True
  | some (.dT _) => True
  | some (.set _ _) => True
  | some (.ins _ _ _) => True
  | some (.ext _) => True
  | _ => False
section
variable {P : Program} {w : World} {H : Hp} {h h' : Heap} {x e : Addr} {o' : HO}

theorem HOk.write (ok : HOk P w H h) (mu : Mut (H x)) (he : e = x ∨ H e = some (.own x)) (k : ∀ b u, b ≠ e → h.get? b = some u → h'.get? b = some u) (heo : ∃ u, h'.get? e = some u)
    (new : ObjOk P w (upd H x o') h' x o') : HOk P w (upd H x o') h' := fun b u q => by
  have nown : ∀ c y, H c = some (.own y) → c ≠ x := fun c y r z => by subst z; rw [r] at mu; exact mu
  have ntup : ∀ c xs, H c = some (.tup xs) → c ≠ x := fun c xs r z => by subst z; rw [r] at mu; exact mu
  by_cases hb : b = x
  · subst hb; rw [upd_same] at q; cases q; exact new
  · rw [upd_ne hb] at q
    by_cases hbe : b = e
    · have q' : H b = some (.own x) := by
        rcases he with z | z
        · exact absurd (hbe.trans z) hb
        · rw [hbe]; exact z
      rw [q] at q'; cases q'
      obtain ⟨v, hv⟩ := heo
      exact ⟨v, by rw [hbe]; exact hv⟩
    · refine (ok b u q).stay (fun c v hc r => k c v ?_ r) (fun c r => by rw [upd_ne (nown c b r)]; exact r) fun c xs r => by rw [upd_ne (ntup c xs r)]; exact r
      rcases hc with rfl | hc
      · exact hbe
      · rintro rfl
        rcases he with z | z
        · exact nown c b hc z
        · rw [hc] at z; cases z; exact hb rfl
end


structure Un (fs ex : List Addr) (H H' : Hp) (h h' : Heap) : Prop where
  keep : ∀ b o, h.get? b = some o → H b = none → b ∉ fs → b ∉ ex → h'.get? b = some o
  slot : ∀ b o, h.get? b = some o → H b = none → b ∈ fs → b ∉ ex → ∃ sl, h'.get? b = some { o with slots := sl }
  free : ∀ b o, h.get? b = some o → H b = none → b ∉ ex → H' b = none
  there : ∀ b o, h.get? b = some o → b ∉ ex → ∃ o', h'.get? b = some o'
  tups : ∀ b xs, H b = some (.tup xs) → H' b = some (.tup xs)
  frzs : ∀ b o u, H b = some (.frz o u) → H' b = some (.frz o u)
  tbls : ∀ b ps, H b = some (.tbl ps) → ∃ more, H' b = some (.tbl (ps ++ more))
section
variable {fs fs' ex ex' : List Addr} {H H1 H2 : Hp} {h h1 h2 h' : Heap} {a x e : Addr} {o : HO}
theorem Un.any (u : Un fs ex H H1 h h1) {b : Addr} {ob : Obj} (q : h.get? b = some ob) (n : H b = none) (hx : b ∉ ex) : ∃ sl, h1.get? b = some { ob with slots := sl } := by
  by_cases hb : b ∈ fs
  · exact u.slot b ob q n hb hx
  · exact ⟨ob.slots, u.keep b ob q n hb hx⟩
theorem Un.kept (k : ∀ b u, h.get? b = some u → h'.get? b = some u) : Un fs ex H H h h' :=
  ⟨fun b ob q _ _ _ => k b ob q, fun b ob q _ _ _ => ⟨ob.slots, k b ob q⟩, fun _ _ _ n _ => n, fun b ob q _ => ⟨ob, k b ob q⟩, fun _ _ q => q, fun _ _ _ q => q, fun _ ps q => ⟨#[], by rw [q]; simp⟩⟩
theorem Un.refl : Un fs ex H H h h := Un.kept fun _ _ q => q
theorem Un.laid (k : ∀ b u, h.get? b = some u → h'.get? b = some u) (hp : h.objs.size ≤ a) (hn : H a = none) : Un fs ex H (upd H a o) h h' where
  keep := fun b u q _ _ _ => k b u q
  slot := fun b u q _ _ _ => ⟨u.slots, k b u q⟩
  free := fun b u q n _ => by rw [upd_ne (Nat.ne_of_lt (Nat.lt_of_lt_of_le (Heap.lt_size q) hp))]; exact n
  there := fun b u q _ => ⟨u, k b u q⟩
  tups := fun b xs q => by rw [upd_ne (ne_of_none q hn)]; exact q
  frzs := fun b u xs q => by rw [upd_ne (ne_of_none q hn)]; exact q
  tbls := fun b ps q => ⟨#[], by rw [upd_ne (ne_of_none q hn), q]; simp⟩
theorem Un.write (mu : Mut (H x)) (he : e = x ∨ H e = some (.own x)) (k : ∀ b u, b ≠ e → h.get? b = some u → h'.get? b = some u) (heo : ∃ u, h'.get? e = some u) : Un fs ex H (upd H x o) h h' := by
  have hx : ∀ b, H b = none → b ≠ x := fun b n z => by subst z; rw [n] at mu; exact mu
  have hb : ∀ b, H b = none → b ≠ e := fun b n z => by
    subst z
    rcases he with r | r
    · exact hx b n r
    · rw [n] at r; cases r
  have hm : ∀ b u, H b = some u → ¬ Mut (some u) → b ≠ x := fun b u q nm z => by subst z; rw [q] at mu; exact nm mu
  refine ⟨fun b u q n _ _ => k b u (hb b n) q, fun b u q n _ _ => ⟨u.slots, k b u (hb b n) q⟩, fun b u q n _ => by rw [upd_ne (hx b n)]; exact n, fun b u q _ => ?_,
    fun b xs q => by rw [upd_ne (hm b _ q fun z => z)]; exact q, fun b u xs q => by rw [upd_ne (hm b _ q fun z => z)]; exact q, fun b ps q => ⟨#[], by rw [upd_ne (hm b _ q fun z => z), q]; simp⟩⟩
  by_cases hbe : b = e
  · subst hbe; exact heo
  · exact ⟨u, k b u hbe q⟩
end


def trk (h : Heap) (H : Hp) : List Addr := (List.range h.objs.size).filter fun a => (H a).isSome
def hidT (h : Heap) (H : Hp) : Heap := PySem.W.hideAll h (trk h H)
theorem hidT_size (h : Heap) (H : Hp) : (hidT h H).objs.size = h.objs.size := PySem.W.hideAll_size _ _
theorem hidT_get {h : Heap} {H : Hp} {b : Addr} {o : Obj} (e : h.get? b = some o) (n : H b = none) : (hidT h H).get? b = some o :=
  PySem.W.hideAll_get _ e fun hm => by
    have q : (H b).isSome = true := (List.mem_filter.mp hm).2
    rw [n] at q; simp at q
theorem of_hidT {h : Heap} {H : Hp} {b : Addr} {o : Obj} (e : (hidT h H).get? b = some o) : h.get? b = some o ∧ H b = none := by
  have e' : h.get? b = some o := PySem.W.of_hideAll (trk h H) e
  refine ⟨e', ?_⟩
  cases q : H b with
  | none => rfl
  | some x =>
    have hm : b ∈ trk h H := List.mem_filter.mpr ⟨List.mem_range.mpr (Heap.lt_size e'), by simp [q]⟩
    have z : (hidT h H).get? b = none := PySem.W.hideAll_none (trk h H) hm
    rw [z] at e; cases e


def allNews (g h : Heap) (L : Addr) : List (Addr × Obj) := (List.range h.objs.size).filterMap fun a => if a = L ∨ (g.get? a).isSome = true then none else (h.get? a).map fun o => (a, o)
def rest (g h : Heap) (L d : Addr) : List (Addr × Obj) := (allNews g h L).filter fun p => decide (p.1 ≠ d)
end L2

namespace L2
open PySem PySem.Spec PyProof.Rows


structure Mod (K : PySem.W.Frag) (mg : Str → Option Value) (base : Heap) : Prop where
  kin : K.In base
  glob : base.Ns mainGlobals mg
  blt : ∃ mb, base.Ns builtinsNs mb ∧ ∀ x : Str, x ≠ "__name__" → mb x = bootBuiltins x
  nolimit : base.NoLimit


structure Cx where
  prog : Program
  w : World
  K : PySem.W.Frag
  mg : Str → Option Value
  base : Heap
  A : Around
  N : List Str
  s₀ : Shared
  H₀ : Hp
  env : Env
  outer : List Env
  stack : List Env
  ex : List Addr
  fn : Str → Bool
  calm : Bool
  pn : List (Addr × Obj)
  xe : Value → Shared → Prop

def frs (l : List Env) : List Addr := l.filterMap (·.frame)
abbrev Cx.fs (X : Cx) : List Addr := frs X.outer

def Vis (sc : Scope) (x : Str) : Prop := sc.names.lookup x = some .local ∨ sc.names.lookup x = some .cell ∨ sc.names.lookup x = some .free
def Loc (sc : Scope) (x : Str) : Prop := sc.names.lookup x = some .local ∨ sc.names.lookup x = some .cell
def Look (env : Env) (h : Heap) (m : Str → Option Value) (x : Str) (u : Value) : Prop :=
  (env.kindOf x = some .local ∧ m x = some u) ∨ ((env.kindOf x = some .cell ∨ env.kindOf x = some .free) ∧ ∃ c, env.cells.lookup x = some c ∧ h.IsCell c (some u))

structure Cx.Ok (X : Cx) : Prop where
  mod : Mod X.K X.mg X.base
  kind : X.env.scope.kind = .function
  glob : X.env.globals = mainGlobals
  blt : X.env.builtins = builtinsNs
  above : X.s₀.heap.objs.size ≤ X.env.locals
  inj : ∀ x y c, X.env.cells.lookup x = some c → X.env.cells.lookup y = some c → x = y
  has : ∀ x, (X.env.kindOf x = some .cell ∨ X.env.kindOf x = some .free) → ∃ c, X.env.cells.lookup x = some c
  cab : ∀ x c, X.fn x = true → X.env.cells.lookup x = some c → X.s₀.heap.objs.size ≤ c
  hd : X.calm = true → X.A.handled = none
  frames : X.A.frames = some X.stack
  stk : X.stack = X.outer ∨ (X.stack = X.env :: X.outer ∧ X.env.frame = some X.env.locals)
  exf : ∀ b ∈ X.ex, b ≠ X.env.locals ∧ ∀ x c, X.env.cells.lookup x = some c → c ≠ b
  bs : ∀ b o, X.base.get? b = some o → X.s₀.heap.get? b = some o ∧ X.H₀ b = none
  bsz : X.base.objs.size ≤ X.s₀.heap.objs.size
  noex : ∀ b o, X.base.get? b = some o → b ∉ X.ex
  exfs : ∀ b ∈ X.ex, b ∉ X.fs
  funs : X.s₀.heap.FunFrames X.base X.outer
  frf : ∀ b ∈ X.fs, X.H₀ b = none

structure Inv (X : Cx) (pins : List (Addr × Obj)) (σ : List (Option V)) (H : Hp) (s : Shared) : Prop where
  ok : X.Ok
  os : s.os = X.s₀.os
  bare : AllBare s.gens
  base : Un X.fs X.ex X.H₀ H X.s₀.heap s.heap
  loc : ∃ m, s.heap.Ns X.env.locals m ∧ ∀ (i : Nat) (x : Str) (v : V), X.N[i]? = some x → σ[i]? = some (some v) → Vis X.env.scope x → ∃ u, RelV v u ∧ Look X.env s.heap m x u
  cell : ∀ x c, X.env.cells.lookup x = some c → ∃ v, s.heap.IsCell c v
  free : H X.env.locals = none
  freeC : ∀ x c, X.env.cells.lookup x = some c → H c = none
  pin : ∀ p ∈ X.pn ++ pins, s.heap.get? p.1 = some p.2 ∧ H p.1 = none ∧ p.1 ≠ X.env.locals ∧ p.1 ∉ X.fs ∧ ∀ v, p.2.data ≠ .cell v
  hok : HOk X.prog X.w H s.heap
  len : σ.length = X.N.length

section
variable {X : Cx} {pins : List (Addr × Obj)} {σ : List (Option V)} {H H' : Hp} {s : Shared} {h' : Heap}

theorem Cx.Ok.nofr (ok : X.Ok) {b : Addr} {o : Obj} (e : X.base.get? b = some o) : b ∉ X.fs := fun hb => by
  have := (ok.funs.mem hb).1
  rw [e] at this; cases this
theorem Inv.bs (I : Inv X pins σ H s) : ∀ b o, X.base.get? b = some o → s.heap.get? b = some o ∧ H b = none := fun b o e =>
  ⟨I.base.keep b o (I.ok.bs b o e).1 (I.ok.bs b o e).2 (I.ok.nofr e) (I.ok.noex b o e), I.base.free b o (I.ok.bs b o e).1 (I.ok.bs b o e).2 (I.ok.noex b o e)⟩
theorem Inv.bk (I : Inv X pins σ H s) : ∀ b o, X.base.get? b = some o → s.heap.get? b = some o := fun b o e => (I.bs b o e).1
theorem Inv.mod (I : Inv X pins σ H s) : Mod X.K X.mg X.base := I.ok.mod
theorem Inv.kIn (I : Inv X pins σ H s) : X.K.In s.heap := I.ok.mod.kin.keeps I.bk
theorem Inv.lt (I : Inv X pins σ H s) : X.env.locals < s.heap.objs.size := let ⟨_, hn, _⟩ := I.loc; hn.lt
theorem Inv.sz (I : Inv X pins σ H s) : X.s₀.heap.objs.size ≤ s.heap.objs.size := Nat.le_trans I.ok.above (Nat.le_of_lt I.lt)
theorem Inv.nofs (I : Inv X pins σ H s) {a : Addr} (h : s.heap.objs.size ≤ a) : a ∉ X.fs := fun hb => by
  obtain ⟨_, o, ho, _⟩ := I.ok.funs.mem hb
  exact absurd (Nat.lt_of_lt_of_le (Heap.lt_size ho) (Nat.le_trans I.sz h)) (Nat.lt_irrefl _)
theorem Inv.cne (I : Inv X pins σ H s) : ∀ x c, X.env.cells.lookup x = some c → c ≠ X.env.locals := fun x c e z => by
  obtain ⟨v, o, ho, hd⟩ := I.cell x c e
  obtain ⟨m, ⟨o', es, ep, ho', hd', _⟩, _⟩ := I.loc
  rw [z, ho'] at ho; cases ho; rw [hd'] at hd; cases hd
theorem Inv.funs (I : Inv X pins σ H s) : s.heap.FunFrames X.base X.outer := by
  have all : ∀ (l : List Env), (∀ b ∈ frs l, b ∈ X.fs) → X.s₀.heap.FunFrames X.base l → s.heap.FunFrames X.base l := by
    intro l
    induction l with
    | nil => intro _ _; trivial
    | cons env r ih =>
      intro hs hl
      obtain ⟨hk, ⟨L, o, hf, hn, ho, hd⟩, hr⟩ := hl
      have hL : L ∈ X.fs := hs L (by unfold frs; rw [List.filterMap_cons, hf]; exact List.mem_cons_self)
      obtain ⟨sl, e⟩ := I.base.slot L o ho (I.ok.frf L hL) hL fun z => I.ok.exfs L z hL
      exact ⟨hk, ⟨L, _, hf, hn, e, hd⟩, ih (fun b hb => hs b (by unfold frs; rw [List.filterMap_cons, hf]; exact List.mem_cons_of_mem _ hb)) hr⟩
  exact all X.outer (fun _ hb => hb) I.ok.funs


theorem Inv.stack (I : Inv X pins σ H s) : s.heap.FunFrames X.base X.stack := by
  rcases I.ok.stk with e | ⟨e, hf⟩
  · rw [e]; exact I.funs
  · rw [e]
    obtain ⟨m, hn, _⟩ := I.loc
    refine .cons (by rw [I.ok.kind]; decide) hf hn ?_ I.funs
    exact Heap.get?_none_of_le (Nat.le_trans I.ok.bsz I.ok.above)
theorem Inv.stkSub (I : Inv X pins σ H s) : ∀ b ∈ frs X.stack, b ∈ X.env.locals :: X.fs := fun b hb => by
  rcases I.ok.stk with e | ⟨e, hf⟩
  · rw [e] at hb; exact List.mem_cons_of_mem _ hb
  · rw [e] at hb
    unfold frs at hb
    rw [List.filterMap_cons, hf] at hb
    exact hb
theorem Inv.stkFree (I : Inv X pins σ H s) : ∀ b ∈ frs X.stack, H b = none := fun b hb => by
  rcases List.mem_cons.mp (I.stkSub b hb) with e | hb
  · rw [e]; exact I.free
  · obtain ⟨_, o, ho, _⟩ := I.ok.funs.mem hb
    exact I.base.free b o ho (I.ok.frf b hb) fun z => I.ok.exfs b z hb


theorem Inv.step {g' : Array GenState} {t' : Nat} {d' : Drawn} {ch : List Addr} (I : Inv X pins σ H s)
    (hch : ∀ b ∈ ch, (b ∈ X.ex ∨ X.s₀.heap.objs.size ≤ b) ∧ b ≠ X.env.locals ∧ (∀ x c, X.env.cells.lookup x = some c → c ≠ b) ∧ ∀ p ∈ X.pn ++ pins, p.1 ≠ b)
    (keep : ∀ b o, b ≠ X.env.locals → b ∉ X.fs → b ∉ ch → s.heap.get? b = some o → H b = none → h'.get? b = some o)
    (slot : ∀ b o, b ≠ X.env.locals → b ∈ X.fs → b ∉ ch → s.heap.get? b = some o → H b = none → ∃ sl, h'.get? b = some { o with slots := sl }) (free : ∀ b o, b ∉ ch → s.heap.get? b = some o → H b = none → H' b = none)
    (there : ∀ b o, b ∉ ch → s.heap.get? b = some o → ∃ o', h'.get? b = some o')
    (tups : ∀ b xs, H b = some (.tup xs) → H' b = some (.tup xs)) (frzs : ∀ b o u, H b = some (.frz o u) → H' b = some (.frz o u)) (tbls : ∀ b ps, H b = some (.tbl ps) → ∃ more, H' b = some (.tbl (ps ++ more)))
    (ns : ∀ m, s.heap.Ns X.env.locals m → h'.Ns X.env.locals m) (hok : HOk X.prog X.w H' h') (hg : AllBare g') :
    Inv X pins σ H' { s with heap := h', gens := g', drawn := d', toks := t' } := by
  have neL : ∀ b o, X.s₀.heap.get? b = some o → b ≠ X.env.locals := fun b o e => Nat.ne_of_lt (Nat.lt_of_lt_of_le (Heap.lt_size e) I.ok.above)
  have neC : ∀ b o, X.s₀.heap.get? b = some o → b ∉ X.ex → b ∉ ch := fun b o e hx hb => by
    rcases (hch b hb).1 with z | z
    · exact hx z
    · exact absurd (Nat.lt_of_lt_of_le (Heap.lt_size e) z) (Nat.lt_irrefl _)
  have cellK : ∀ x c, X.env.cells.lookup x = some c → ∀ v, s.heap.IsCell c v → h'.IsCell c v := fun x c e v ⟨o, ho, hd⟩ => by
    have nch : c ∉ ch := fun z => (hch c z).2.2.1 x c e rfl
    by_cases hc : c ∈ X.fs
    · obtain ⟨sl, q⟩ := slot c o (I.cne x c e) hc nch ho (I.freeC x c e)
      exact ⟨_, q, hd⟩
    · exact ⟨o, keep c o (I.cne x c e) hc nch ho (I.freeC x c e), hd⟩
  refine ⟨I.ok, I.os, hg, ⟨fun b o e n hb hx => ?_, fun b o e n hb hx => ?_, fun b o e n hx => ?_, fun b o e hx => ?_, fun b xs e => tups b xs (I.base.tups b xs e), fun b o xs e => frzs b o xs (I.base.frzs b o xs e), fun b ps e => ?_⟩, ?_, fun x c e => ?_, ?_, fun x c e => ?_, fun p hp => ?_, hok, I.len⟩
  · exact keep b o (neL b o e) hb (neC b o e hx) (I.base.keep b o e n hb hx) (I.base.free b o e n hx)
  · obtain ⟨sl, e1⟩ := I.base.slot b o e n hb hx
    obtain ⟨sl', e2⟩ := slot b _ (neL b o e) hb (neC b o e hx) e1 (I.base.free b o e n hx)
    exact ⟨sl', e2⟩
  · obtain ⟨o', e1⟩ := I.base.there b o e hx
    exact free b o' (neC b o e hx) e1 (I.base.free b o e n hx)
  · obtain ⟨o', e1⟩ := I.base.there b o e hx
    exact there b o' (neC b o e hx) e1
  · obtain ⟨m1, e1⟩ := I.base.tbls b ps e
    obtain ⟨m2, e2⟩ := tbls b _ e1
    exact ⟨m1 ++ m2, by rw [e2, Array.append_assoc]⟩
  · obtain ⟨m, hn, hl⟩ := I.loc
    refine ⟨m, ns m hn, fun i x v e1 e2 e3 => ?_⟩
    obtain ⟨u, r, l⟩ := hl i x v e1 e2 e3
    refine ⟨u, r, ?_⟩
    rcases l with l | ⟨k, c, e, z⟩
    · exact .inl l
    · exact .inr ⟨k, c, e, cellK x c e _ z⟩
  · obtain ⟨v, z⟩ := I.cell x c e
    exact ⟨v, cellK x c e v z⟩
  · obtain ⟨m, ⟨o, _, _, ho, _⟩, _⟩ := I.loc
    exact free _ o (fun z => (hch _ z).2.1 rfl) ho I.free
  · obtain ⟨v, o, ho, hd⟩ := I.cell x c e
    exact free c o (fun z => (hch c z).2.2.1 x c e rfl) ho (I.freeC x c e)
  · obtain ⟨e, n, ne, nf, d⟩ := I.pin p hp
    have nch : p.1 ∉ ch := fun z => (hch p.1 z).2.2.2 p hp rfl
    exact ⟨keep p.1 p.2 ne nf nch e n, free p.1 p.2 nch e n, ne, nf, d⟩

theorem Inv.un {t' : Nat} (I : Inv X pins σ H s) (u : Un X.fs [] H H' s.heap h') (hok : HOk X.prog X.w H' h') : Inv X pins σ H' { s with heap := h', toks := t' } := by
  obtain ⟨m, ⟨o, es, ep, ho, r⟩, _⟩ := id I.loc
  obtain ⟨sl, hL⟩ := u.any ho I.free (by simp)
  exact I.step (g' := s.gens) (d' := s.drawn) (ch := []) (fun _ z => nomatch z) (fun b o _ hb _ e n => u.keep b o e n hb (by simp)) (fun b o _ hb _ e n => u.slot b o e n hb (by simp)) (fun b o _ e n => u.free b o e n (by simp)) (fun b o _ e => u.there b o e (by simp)) u.tups u.frzs u.tbls (fun m' hm => by
    obtain ⟨o', es', ep', ho', r'⟩ := hm
    rw [ho] at ho'; cases ho'
    exact ⟨_, es', ep', hL, r'⟩) hok I.bare

theorem Inv.call {g' : Array GenState} {t' : Nat} {d' : Drawn} {ch : List Addr} (I : Inv X pins σ H s) (u : Un (frs X.stack) ch H H' s.heap h') (hok : HOk X.prog X.w H' h') (hg : AllBare g')
    (hch : ∀ b ∈ ch, (b ∈ X.ex ∨ X.s₀.heap.objs.size ≤ b) ∧ b ≠ X.env.locals ∧ (∀ x c, X.env.cells.lookup x = some c → c ≠ b) ∧ ∀ p ∈ X.pn ++ pins, p.1 ≠ b) :
    Inv X pins σ H' { s with heap := h', gens := g', drawn := d', toks := t' } := by
  obtain ⟨m, ⟨o, es, ep, ho, r⟩, _⟩ := id I.loc
  obtain ⟨sl, hL⟩ := u.any ho I.free fun z => (hch _ z).2.1 rfl
  exact I.step (ch := ch) hch (fun b o hL hb hc e n => u.keep b o e n (fun z => (List.mem_cons.mp (I.stkSub b z)).elim hL hb) hc) (fun b o _ _ hc e n => u.any e n hc) (fun b o hc e n => u.free b o e n hc) (fun b o hc e => u.there b o e hc) u.tups u.frzs u.tbls (fun m' hm => by
    obtain ⟨o', es', ep', ho', r'⟩ := hm
    rw [ho] at ho'; cases ho'
    exact ⟨_, es', ep', hL, r'⟩) hok hg

theorem Inv.turned {t' : Nat} {it : Addr} (I : Inv X pins σ H s) (k : ∀ b o, b ≠ it → s.heap.get? b = some o → h'.get? b = some o) (hn : H it = none) (hL : it ≠ X.env.locals)
    (h1 : it ∈ X.ex ∨ X.s₀.heap.objs.size ≤ it) (h2 : ∀ x c, X.env.cells.lookup x = some c → c ≠ it) (h3 : ∀ p ∈ X.pn ++ pins, p.1 ≠ it) : Inv X pins σ H { s with heap := h', toks := t' } := by
  have nit : ∀ b u, H b = some u → b ≠ it := fun b u e z => by rw [z, hn] at e; cases e
  refine I.step (g' := s.gens) (d' := s.drawn) (ch := [it]) (fun b hb => ?_) (fun b o _ _ hc e _ => k b o (fun z => hc (by simp [z])) e) (fun b o _ _ hc e _ => ⟨o.slots, k b o (fun z => hc (by simp [z])) e⟩) (fun _ _ _ _ n => n)
    (fun b o hc e => ⟨o, k b o (fun z => hc (by simp [z])) e⟩) (fun _ _ e => e) (fun _ _ _ e => e) (fun b ps e => ⟨#[], by rw [e]; simp⟩) (fun m hm => ?_) (fun b u e => ?_) I.bare
  · have e : b = it := by simpa using hb
    subst e
    exact ⟨h1, hL, h2, h3⟩
  · obtain ⟨o, es, ep, ho, r⟩ := hm
    exact ⟨o, es, ep, k _ o (Ne.symm hL) ho, r⟩
  · refine (I.hok b u e).stay (fun c v hc q => k c v ?_ q) (fun _ q => q) fun _ _ q => q
    rcases hc with z | z
    · rw [z]; exact nit b u e
    · exact nit c _ z
theorem Inv.tok (I : Inv X pins σ H s) (t : Nat) : Inv X pins σ H { s with toks := t } := I.un (h' := s.heap) (t' := t) Un.refl I.hok

theorem Inv.kept {t' : Nat} (I : Inv X pins σ H s) (k : ∀ b u, s.heap.get? b = some u → h'.get? b = some u) : Inv X pins σ H { s with heap := h', toks := t' } := I.un (Un.kept k) (I.hok.kept k)

theorem Inv.laid {a : Addr} {o : HO} {t' : Nat} (I : Inv X pins σ H s) (k : ∀ b u, s.heap.get? b = some u → h'.get? b = some u) (hp : s.heap.objs.size ≤ a) (new : ObjOk X.prog X.w (upd H a o) h' a o) :
    Inv X pins σ (upd H a o) { s with heap := h', toks := t' } := I.un (Un.laid k hp (I.hok.fresh hp)) (I.hok.laid k hp new)

theorem Inv.write {x e : Addr} {o : HO} {t' : Nat} (I : Inv X pins σ H s) (mu : Mut (H x)) (he : e = x ∨ H e = some (.own x)) (k : ∀ b u, b ≠ e → s.heap.get? b = some u → h'.get? b = some u) (heo : ∃ u, h'.get? e = some u)
    (new : ObjOk X.prog X.w (upd H x o) h' x o) : Inv X pins σ (upd H x o) { s with heap := h', toks := t' } := I.un (Un.write mu he k heo) (I.hok.write mu he k heo new)

theorem Inv.pins_of {pins' : List (Addr × Obj)} (I : Inv X pins σ H s) (h : ∀ p ∈ pins', s.heap.get? p.1 = some p.2 ∧ H p.1 = none ∧ p.1 ≠ X.env.locals ∧ p.1 ∉ X.fs ∧ ∀ v, p.2.data ≠ .cell v) : Inv X pins' σ H s :=
  ⟨I.ok, I.os, I.bare, I.base, I.loc, I.cell, I.free, I.freeC, fun p hp => (List.mem_append.mp hp).elim (fun z => I.pin p (List.mem_append_left _ z)) (h p), I.hok, I.len⟩

theorem nodup_ix {N : List Str} (hN : N.Nodup) {i j : Nat} {x : Str} (a : N[i]? = some x) (b : N[j]? = some x) : i = j := by
  obtain ⟨h1, e1⟩ := List.getElem?_eq_some_iff.mp a
  obtain ⟨h2, e2⟩ := List.getElem?_eq_some_iff.mp b
  exact (List.getElem_inj hN).mp (e1.trans e2.symm)


theorem store_ok2 {M : Model} {A : Around} {E : Value → Shared → Prop} {i : Nat} {x : Str} {v : V} {u : Value} {Q : Unit → Shared → Prop} (I : Inv X pins σ H s) (hN : X.N.Nodup) (hi : X.N[i]? = some x) (hx : Loc X.env.scope x) (r : RelV v u)
    (h : ∀ s', Inv X pins (σ.set i (some v)) H s' → (∃ a, Heap.SameBut a s.heap s'.heap ∧ (a = X.env.locals ∨ X.env.cells.lookup x = some a)) → Q () s') (hf : X.fn x = true ∨ X.env.scope.names.lookup x = some .local := by first | exact .inl rfl | exact .inr rfl | assumption) : wpAny M A (storeName X.env x u) Q E s := by
  obtain ⟨m, hn, hl⟩ := id I.loc
  have hcls : (X.env.scope.kind == .class || (X.env.scope.kind == .module && X.env.locals != X.env.globals)) = false := by rw [I.ok.kind]; rfl
  have hiσ : i < σ.length := by rw [I.len]; exact (List.getElem?_eq_some_iff.mp hi).1
  have cne := I.cne
  have tracked : ∀ {a : Addr} {h' : Heap}, (∃ o, s.heap.get? a = some o ∧ H a = none) → Heap.SameBut a s.heap h' → HOk X.prog X.w H h' := fun {a h'} ha hs b ob e => by
    obtain ⟨_, _, hfree⟩ := ha
    refine (I.hok b ob e).stay (fun c w' hc q => (hs.2 c ?_).trans q) (fun _ q => q) fun _ _ q => q
    rintro rfl
    rcases hc with rfl | hc
    · rw [hfree] at e; cases e
    · rw [hfree] at hc; cases hc
  rcases hx with hk | hk
  · refine wpAny_storeName_local hk hn (fun h' hn' hs => ?_) hcls
    obtain ⟨oL, _, _, hoL, _⟩ := id hn
    refine h _ ⟨I.ok, I.os, I.bare, ⟨fun b o e n hb hx => ?_, fun b o e n hb hx => ?_, I.base.free, fun b o e hx => ?_, I.base.tups, I.base.frzs, I.base.tbls⟩, ⟨_, hn', fun j y v' e1 e2 e3 => ?_⟩, fun y c e => ?_, I.free, I.freeC, fun p hp => ?_, tracked ⟨oL, hoL, I.free⟩ hs, by simpa using I.len⟩ ⟨_, hs, .inl rfl⟩
    · exact (hs.2 b (Nat.ne_of_lt (Nat.lt_of_lt_of_le (Heap.lt_size e) I.ok.above))).trans (I.base.keep b o e n hb hx)
    · obtain ⟨sl, e1⟩ := I.base.slot b o e n hb hx
      exact ⟨sl, (hs.2 b (Nat.ne_of_lt (Nat.lt_of_lt_of_le (Heap.lt_size e) I.ok.above))).trans e1⟩
    · obtain ⟨o', e1⟩ := I.base.there b o e hx
      exact ⟨o', (hs.2 b (Nat.ne_of_lt (Nat.lt_of_lt_of_le (Heap.lt_size e) I.ok.above))).trans e1⟩
    · by_cases hj : j = i
      · subst hj
        rw [hi] at e1; cases e1
        rw [List.getElem?_set_self hiσ] at e2
        cases e2
        exact ⟨u, r, .inl ⟨hk, by simp⟩⟩
      · rw [List.getElem?_set_ne (Ne.symm hj)] at e2
        obtain ⟨u', r', q⟩ := hl j y v' e1 e2 e3
        refine ⟨u', r', ?_⟩
        rcases q with ⟨k, e⟩ | ⟨k, c, e, z⟩
        · refine .inl ⟨k, ?_⟩
          have : y ≠ x := fun e => hj (nodup_ix hN e1 (e ▸ hi))
          simp [this, e]
        · exact .inr ⟨k, c, e, z.sameBut hs (cne y c e)⟩
    · obtain ⟨w', z⟩ := I.cell y c e
      exact ⟨w', z.sameBut hs (cne y c e)⟩
    · obtain ⟨e, n, ne, nf, d⟩ := I.pin p hp
      exact ⟨(hs.2 p.1 ne).trans e, n, ne, nf, d⟩
  · have hfn : X.fn x = true := by
      rcases hf with z | z
      · exact z
      · rw [z] at hk; cases hk
    obtain ⟨c, hc⟩ := I.ok.has x (.inl hk)
    obtain ⟨w', z⟩ := I.cell x c hc
    refine wpAny_storeName_cell I.ok.kind hk hc z (fun h' hc' hs => ?_)
    obtain ⟨oc, hoc, hocd⟩ := id z
    refine h { s with heap := h' } ⟨I.ok, I.os, I.bare, ⟨fun b o e n hb hx => ?_, fun b o e n hb hx => ?_, I.base.free, fun b o e hx => ?_, I.base.tups, I.base.frzs, I.base.tbls⟩, ⟨m, hn.sameBut hs (Ne.symm (cne x c hc)), fun j y v' e1 e2 e3 => ?_⟩, fun y c' e => ?_, I.free, I.freeC, fun p hp => ?_, tracked ⟨oc, hoc, I.freeC x c hc⟩ hs, by simpa using I.len⟩ ⟨c, hs, .inr hc⟩
    · exact (hs.2 b (Nat.ne_of_lt (Nat.lt_of_lt_of_le (Heap.lt_size e) (I.ok.cab x c hfn hc)))).trans (I.base.keep b o e n hb hx)
    · obtain ⟨sl, e1⟩ := I.base.slot b o e n hb hx
      exact ⟨sl, (hs.2 b (Nat.ne_of_lt (Nat.lt_of_lt_of_le (Heap.lt_size e) (I.ok.cab x c hfn hc)))).trans e1⟩
    · obtain ⟨o', e1⟩ := I.base.there b o e hx
      exact ⟨o', (hs.2 b (Nat.ne_of_lt (Nat.lt_of_lt_of_le (Heap.lt_size e) (I.ok.cab x c hfn hc)))).trans e1⟩
    · by_cases hj : j = i
      · subst hj
        rw [hi] at e1; cases e1
        rw [List.getElem?_set_self hiσ] at e2
        cases e2
        exact ⟨u, r, .inr ⟨.inl hk, c, hc, hc'⟩⟩
      · rw [List.getElem?_set_ne (Ne.symm hj)] at e2
        obtain ⟨u', r', q⟩ := hl j y v' e1 e2 e3
        refine ⟨u', r', ?_⟩
        rcases q with q | ⟨k, c', e, z'⟩
        · exact .inl q
        · refine .inr ⟨k, c', e, z'.sameBut hs ?_⟩
          rintro rfl
          exact hj (nodup_ix hN e1 (I.ok.inj _ _ _ e hc ▸ hi))
    · by_cases hcc : c' = c
      · subst hcc; exact ⟨_, hc'⟩
      · obtain ⟨w2, z2⟩ := I.cell y c' e
        exact ⟨w2, z2.sameBut hs hcc⟩
    · obtain ⟨e, n, ne, nf, d⟩ := I.pin p hp
      refine ⟨(hs.2 p.1 ?_).trans e, n, ne, nf, d⟩
      intro q
      rw [q, hoc] at e
      have q' : oc = p.2 := Option.some.inj e
      exact d w' (by rw [← q']; exact hocd)
theorem store_ok {M : Model} {A : Around} {E : Value → Shared → Prop} {i : Nat} {x : Str} {v : V} {u : Value} {Q : Unit → Shared → Prop} (I : Inv X pins σ H s) (hN : X.N.Nodup) (hi : X.N[i]? = some x) (hx : Loc X.env.scope x) (r : RelV v u)
    (h : ∀ s', Inv X pins (σ.set i (some v)) H s' → Q () s') (hf : X.fn x = true ∨ X.env.scope.names.lookup x = some .local := by first | exact .inl rfl | exact .inr rfl | assumption) : wpAny M A (storeName X.env x u) Q E s :=
  store_ok2 I hN hi hx r (fun s' I' _ => h s' I') hf

theorem Inv.call' {s' : Shared} {ch : List Addr} (I : Inv X pins σ H s) (ho : s'.os = s.os) (u : Un (frs X.stack) ch H H' s.heap s'.heap) (hok : HOk X.prog X.w H' s'.heap) (hg : AllBare s'.gens)
    (hch : ∀ b ∈ ch, (b ∈ X.ex ∨ X.s₀.heap.objs.size ≤ b) ∧ b ≠ X.env.locals ∧ (∀ x c, X.env.cells.lookup x = some c → c ≠ b) ∧ ∀ p ∈ X.pn ++ pins, p.1 ≠ b) : Inv X pins σ H' s' := by
  obtain ⟨h', g', d', t', o'⟩ := s'
  have e : o' = s.os := ho
  subst e
  exact I.call (g' := g') (t' := t') (d' := d') u hok hg hch
end



abbrev XK := Value → Option Addr → Hp → Prop
abbrev St := List (Option V)
abbrev VK := V → Hp → Prop

abbrev TE := St → Hp → VK → Prop
abbrev TT := St → Hp → (Bool → Hp → Prop) → Prop
abbrev TA := St → Hp → (List V → Hp → Prop) → Prop

structure Ends where
  nx : St → Hp → Prop
  rt : VK
  bk : St → Hp → Prop := fun _ _ => False
  ct : St → Hp → Prop := fun _ _ => False
abbrev TS := Ends → St → Hp → Prop

def EP (X : Cx) (pins : List (Addr × Obj)) (σ : St) (Q : VK) (u : Value) (s' : Shared) : Prop := ∃ v H', Inv X pins σ H' s' ∧ RelV v u ∧ Q v H'
def TP (X : Cx) (pins : List (Addr × Obj)) (σ : St) (Q : Bool → Hp → Prop) (b : Bool) (s' : Shared) : Prop := ∃ H', Inv X pins σ H' s' ∧ Q b H'
def AP (X : Cx) (pins : List (Addr × Obj)) (σ : St) (Q : List V → Hp → Prop) (us : List Value) (s' : Shared) : Prop := ∃ vs H', Inv X pins σ H' s' ∧ Vals vs us ∧ Q vs H'
def SP (X : Cx) (pins : List (Addr × Obj)) (D : Ends) (f : Flow) (s' : Shared) : Prop :=
  match f with
  | .next => ∃ σ' H', Inv X pins σ' H' s' ∧ D.nx σ' H'
  | .brk => ∃ σ' H', Inv X pins σ' H' s' ∧ D.bk σ' H'
  | .cont => ∃ σ' H', Inv X pins σ' H' s' ∧ D.ct σ' H'
  | .ret u => ∃ v σ' H', Inv X pins σ' H' s' ∧ RelV v u ∧ D.rt v H'

def PE (X : Cx) (e : Expr) (t : TE) : Prop :=
  ∀ (pins : List (Addr × Obj)) (s : Shared) (σ : St) (H : Hp) (Q : VK), Inv X pins σ H s → t σ H Q → wpAny (model X.prog X.w) X.A (eval e X.env) (EP X pins σ Q) X.xe s
def PT (X : Cx) (e : Expr) (t : TT) : Prop :=
  ∀ (pins : List (Addr × Obj)) (s : Shared) (σ : St) (H : Hp) (Q : Bool → Hp → Prop), Inv X pins σ H s → t σ H Q → wpAny (model X.prog X.w) X.A (isTrue e X.env (eval e X.env)) (TP X pins σ Q) X.xe s

def PW (X : Cx) (e : Expr) (t : TT) : Prop :=
  ∀ (whole : Sem Value) (pins : List (Addr × Obj)) (s : Shared) (σ : St) (H : Hp) (Q : Bool → Hp → Prop), Inv X pins σ H s → t σ H Q → wpAny (model X.prog X.w) X.A (isTrue e X.env whole) (TP X pins σ Q) X.xe s
theorem PW.pt {X : Cx} {e : Expr} {t : TT} (h : PW X e t) : PT X e t := h _

def PA (X : Cx) (es : List Expr) (t : TA) : Prop :=
  ∀ (pos : Pos) (pins : List (Addr × Obj)) (s : Shared) (σ : St) (H : Hp) (Q : List V → Hp → Prop), Inv X pins σ H s → t σ H Q → wpAny (model X.prog X.w) X.A (spliced (backTo pos (starEach es X.env))) (AP X pins σ Q) X.xe s
def PS (X : Cx) (st : Stmt) (t : TS) : Prop :=
  ∀ (pins : List (Addr × Obj)) (s : Shared) (σ : St) (H : Hp) (D : Ends), Inv X pins σ H s → t D σ H → wpAny (model X.prog X.w) X.A (exec st X.env) (SP X pins D) X.xe s
def PSs (X : Cx) (st : List Stmt) (t : TS) : Prop :=
  ∀ (pins : List (Addr × Obj)) (s : Shared) (σ : St) (H : Hp) (D : Ends), Inv X pins σ H s → t D σ H → wpAny (model X.prog X.w) X.A (execs st X.env) (SP X pins D) X.xe s

theorem thn {α : Type} {t : Sem α} {Q Q' : α → Shared → Prop} {M : Model} {A : Around} {E : Value → Shared → Prop} {s : Shared} (h : wpAny M A t Q E s) (hQ : ∀ a s, Q a s → Q' a s) : wpAny M A t Q' E s := wpAny_mono h hQ fun _ _ x => x
end L2

namespace L2
open PySem PySem.Spec PyProof.Rows
section
variable {X : Cx}


def tVar (i : Nat) : TE := fun σ H Q => ∃ v, σ[i]? = some (some v) ∧ Q v H
def tC (v : V) : TE := fun _ H Q => Q v H
theorem pe_var {i : Nat} {x : Str} {pos : Pos} (hN : X.N[i]? = some x) (hv : Vis X.env.scope x) (hd : (x == ("__debug__" : Str)) = false := by decide) (hcd : (x == ("__classdict__" : Str)) = false := by decide) : PE X (.Name x pos) (tVar i) := by
  intro pins s σ H Q I h
  obtain ⟨v, e, h⟩ := h
  obtain ⟨m, hn, hl⟩ := I.loc
  obtain ⟨u, r, l⟩ := hl i x v hN e hv
  have fin : EP X pins σ Q u s := ⟨v, H, I, r, h⟩
  rcases l with ⟨hk, hm⟩ | ⟨hk, c, hc, hcell⟩
  · exact wpAny_Name (wpAny_loadName_local I.ok.kind hk hn hm fin) hd
  · rcases hk with hk | hk
    · exact wpAny_Name (wpAny_loadName_cell I.ok.kind hk hc hcell fin) hd
    · exact wpAny_Name (wpAny_loadName_free I.ok.kind hk hc hcell fin hcd) hd
theorem pe_int {i j pos} : PE X (.Constant (.int i) j pos) (tC (.int i)) := fun _ _ _ H _ I h => wpAny_Constant_int ⟨.int i, H, I.tok _, ⟨_, rfl⟩, h⟩
theorem pe_bl {b j pos} : PE X (.Constant (.bool b) j pos) (tC (.bl b)) := fun _ _ _ H _ I h => Constant_bool ⟨.bl b, H, I, rfl, h⟩
theorem pe_non {j pos} : PE X (.Constant .none j pos) (tC .non) := fun _ _ _ H _ I h => Constant_none ⟨.non, H, I, rfl, h⟩
theorem pe_str {x j pos} : PE X (.Constant (.str x) j pos) (tC (.str x)) := fun _ _ _ H _ I h => Calls.Constant_str ⟨.str x, H, I.tok _, ⟨_, rfl⟩, h⟩


def Gl (X : Cx) (x : Str) : Prop := X.env.kindOf x = some .globalImplicit
theorem ld_glob {E : Value → Shared → Prop} {pins : List (Addr × Obj)} {s : Shared} {σ : St} {H : Hp} {x : Str} {u : Value} {pos : Pos} {Q : Value → Shared → Prop} (I : Inv X pins σ H s) (hg : Gl X x) (hm : X.mg x = some u) (h : Q u s)
    (hd : (x == ("__debug__" : Str)) = false := by decide) : wpAny (model X.prog X.w) X.A (eval (.Name x pos) X.env) Q E s :=
  Calls.Name_function_global I.ok.kind hg (Calls.loadGlobal_global (by rw [I.ok.glob]; exact I.mod.glob.keeps I.bk) hm h) hd
theorem ld_blt {E : Value → Shared → Prop} {pins : List (Addr × Obj)} {s : Shared} {σ : St} {H : Hp} {x : Str} {u : Value} {pos : Pos} {Q : Value → Shared → Prop} (I : Inv X pins σ H s) (hg : Gl X x) (hm : X.mg x = none) (hv : bootBuiltins x = some u) (h : Q u s)
    (hn : x ≠ "__name__" := by decide) (hd : (x == ("__debug__" : Str)) = false := by decide) : wpAny (model X.prog X.w) X.A (eval (.Name x pos) X.env) Q E s := by
  obtain ⟨mb, h1, h2⟩ := I.mod.blt
  exact Calls.Name_function_global I.ok.kind hg (Calls.loadGlobal_builtin (by rw [I.ok.glob]; exact I.mod.glob.keeps I.bk) hm (by rw [I.ok.blt]; exact h1.keeps I.bk) ((h2 x hn).trans hv) h) hd

def t2I (ta tb : TE) (k : Int → Int → Hp → Prop) : St → Hp → Prop := fun σ H => ta σ H fun x H1 => tb σ H1 fun y H2 => ∃ i j, x = .int i ∧ y = .int j ∧ k i j H2
def tAdd (ta tb : TE) : TE := fun σ H Q => t2I ta tb (fun i j H2 => Q (.int (i + j)) H2) σ H
def tSub (ta tb : TE) : TE := fun σ H Q => t2I ta tb (fun i j H2 => Q (.int (i - j)) H2) σ H

def tMul (ta tb : TE) : TE := fun σ H Q => t2I ta tb (fun i j H2 => (-(2 ^ 64) < i ∧ i < 2 ^ 64) ∧ Q (.int (i * j)) H2) σ H
variable {a b : Expr} {ta tb : TE} {pos : Pos}
def PC (X : Cx) (op : CmpOp) (a b : Expr) (t : TE) : Prop :=
  ∀ (pins : List (Addr × Obj)) (s : Shared) (σ : St) (H : Hp) (Q : VK), Inv X pins σ H s → t σ H Q →
    wpAny (model X.prog X.w) X.A (eval a X.env) (fun v s₁ => wpAny (model X.prog X.w) X.A (eval b X.env) (fun u s₂ => wpAny (model X.prog X.w) X.A (compareOp op v u) (EP X pins σ Q) X.xe s₂) X.xe s₁) X.xe s
theorem nobehind (b : Expr) {op : CmpOp} (h : op ≠ .In) (h2 : op ≠ .NotIn) : behindInMarks op b = false := by
  have e1 : (op == CmpOp.In) = false := by cases op <;> first | rfl | exact absurd rfl h
  have e2 : (op == CmpOp.NotIn) = false := by cases op <;> first | rfl | exact absurd rfl h2
  cases b <;> simp [behindInMarks, e1, e2]
def tCmp (p : Int → Int → Bool) (ta tb : TE) : TE := fun σ H Q => t2I ta tb (fun i j H2 => Q (.bl (p i j)) H2) σ H
abbrev tLt : TE → TE → TE := tCmp fun i j => decide (i < j)
abbrev tLe : TE → TE → TE := tCmp fun i j => decide (i ≤ j)
abbrev tGt : TE → TE → TE := tCmp fun i j => decide (j < i)
abbrev tGe : TE → TE → TE := tCmp fun i j => decide (j ≤ i)
abbrev tEqI : TE → TE → TE := tCmp fun i j => decide (i = j)
abbrev tNeI : TE → TE → TE := tCmp fun i j => !decide (i = j)

def tIsN (ta : TE) : TE := fun σ H Q => ta σ H fun x H1 => Q (.bl (decide (x = .non))) H1
def tNotN (ta : TE) : TE := fun σ H Q => ta σ H fun x H1 => Q (.bl (!decide (x = .non))) H1
theorem RelV.none_iff {x : V} {v : Value} (r : RelV x v) : (v == Value.none) = decide (x = .non) := by
  cases x with
  | non => cases r; rfl
  | bl _ => cases r; rfl
  | int _ => obtain ⟨t, rfl⟩ := r; rfl
  | str _ => obtain ⟨t, rfl⟩ := r; rfl
  | byt _ => obtain ⟨t, rfl⟩ := r; rfl
  | flt _ => obtain ⟨t, rfl⟩ := r; rfl
  | ref _ => cases r; rfl
  | ty _ => cases r; rfl
theorem pc_isN {j pos'} (ha : PE X a ta) : PC X .Is a (.Constant .none j pos') (tIsN ta) := by
  intro pins s σ H Q I h
  refine thn (ha pins s σ H _ I h) fun v s1 ⟨x, H1, I1, r1, q1⟩ => ?_
  exact Constant_none (is_none_gen ⟨.bl _, H1, I1, by rw [r1.none_iff]; rfl, q1⟩)
def tB (t : TE) : TT := fun σ H Q => t σ H fun x H1 => ∃ c, x = .bl c ∧ Q c H1
theorem pe_cmp {op : CmpOp} {t : TE} (h : PC X op a b t) (h1 : behindInMarks op b = false := by first | exact nobehind _ (by decide) (by decide) | rfl) : PE X (.Compare a [op] [b] pos) t := fun pins s σ H Q I hw => wpAny_Compare1 (h pins s σ H Q I hw) h1
theorem pt_cmp {op : CmpOp} {t : TE} (h : PC X op a b t) (h1 : behindInMarks op b = false := by first | exact nobehind _ (by decide) (by decide) | rfl) : PT X (.Compare a [op] [b] pos) (tB t) := by
  intro pins s σ H Q I hw
  refine wpAny_isTrue_Compare1 (thn (h pins s σ H _ I hw) fun v s1 h1 => thn h1 fun u s2 h2 => thn h2 fun c s3 ⟨x, H1, I1, r1, q1⟩ => ?_) h1
  obtain ⟨d, rfl, q⟩ := q1
  cases r1
  exact wpAny_truthy_bool ⟨H1, I1, q⟩

variable {tA tB' : TT} {rest : List Expr}
def tAnd (t u : TT) : TT := fun σ H Q => t σ H fun c H1 => if c = true then u σ H1 Q else Q false H1
def tOr (t u : TT) : TT := fun σ H Q => t σ H fun c H1 => if c = true then Q true H1 else u σ H1 Q
def tNot (t : TT) : TT := fun σ H Q => t σ H fun c H1 => Q (!c) H1
theorem pw_or1 (ha : PT X a tA) : PW X (.BoolOp .Or [a] pos) tA := by
  intro wh pins s σ H Q I h
  refine isTrue_or (thn (ha pins s σ H Q I h) fun c s1 e => ?_)
  cases c with
  | false => exact isTrue_or_nil e
  | true => exact e
theorem pw_or (ha : PT X a tA) (hb : PW X (.BoolOp .Or (b :: rest) pos) tB') : PW X (.BoolOp .Or (a :: b :: rest) pos) (tOr tA tB') := by
  intro wh pins s σ H Q I h
  refine isTrue_or (thn (ha pins s σ H _ I h) fun c s1 ⟨H1, I1, q1⟩ => ?_)
  cases c with
  | true => exact ⟨H1, I1, q1⟩
  | false => exact hb wh pins s1 σ H1 Q I1 q1
def tAndV (ta tb : TE) : TE := fun σ H Q => ta σ H fun x H1 => ∃ c, x = .bl c ∧ if c = true then tb σ H1 Q else Q (.bl false) H1
def tOrV (ta tb : TE) : TE := fun σ H Q => ta σ H fun x H1 => ∃ c, x = .bl c ∧ if c = true then Q (.bl true) H1 else tb σ H1 Q
def tNotV (ta : TE) : TE := fun σ H Q => ta σ H fun x H1 => ∃ c, x = .bl c ∧ Q (.bl (!c)) H1
theorem pe_one {op} {t : TE} (h : PE X a t) : PE X (.BoolOp op [a] pos) t := fun pins s σ H Q I hw => BoolOp_one (h pins s σ H Q I hw)
theorem pe_and (ha : PE X a ta) (hb : PE X (.BoolOp .And (b :: rest) pos) tb) : PE X (.BoolOp .And (a :: b :: rest) pos) (tAndV ta tb) := by
  intro pins s σ H Q I h
  refine BoolOp_and (thn (ha pins s σ H _ I h) fun v s1 ⟨x, H1, I1, r1, q1⟩ => ?_)
  obtain ⟨c, rfl, q1⟩ := q1
  cases r1
  refine wpAny_truthy_bool ?_
  cases c with
  | true => exact hb pins s1 σ H1 Q I1 q1
  | false => exact ⟨.bl false, H1, I1, rfl, q1⟩
theorem pe_or (ha : PE X a ta) (hb : PE X (.BoolOp .Or (b :: rest) pos) tb) : PE X (.BoolOp .Or (a :: b :: rest) pos) (tOrV ta tb) := by
  intro pins s σ H Q I h
  refine BoolOp_or (thn (ha pins s σ H _ I h) fun v s1 ⟨x, H1, I1, r1, q1⟩ => ?_)
  obtain ⟨c, rfl, q1⟩ := q1
  cases r1
  refine wpAny_truthy_bool ?_
  cases c with
  | false => exact hb pins s1 σ H1 Q I1 q1
  | true => exact ⟨.bl true, H1, I1, rfl, q1⟩
theorem pe_not (ha : PE X a ta) : PE X (.UnaryOp .Not a pos) (tNotV ta) := by
  intro pins s σ H Q I h
  refine UnaryOp_ (thn (ha pins s σ H _ I h) fun v s1 ⟨x, H1, I1, r1, q1⟩ => ?_)
  obtain ⟨c, rfl, q1⟩ := q1
  cases r1
  exact not_of (wpAny_truthy_bool ⟨.bl (!c), H1, I1, rfl, q1⟩)

def tIf (t : TT) (ta tb : TE) : TE := fun σ H Q => t σ H fun c H1 => if c = true then ta σ H1 Q else tb σ H1 Q
end
end L2

namespace L2
open PySem PySem.Spec PyProof.Rows


def SqL (K : PySem.W.Frag) (H : Hp) (a : Addr) (xs : List V) : Prop :=
  Rd H a (.lst xs) ∨
    ∃ (o : Obj) (its : Array Value) (n : Nat), K.lookup a = some o ∧ o.cls = .type "list" ∧ o.dict = none ∧ o.data = .seq its n ∧ its.size ≤ sizeLine ∧ Vals xs its.toList
def SqT (K : PySem.W.Frag) (H : Hp) (a : Addr) (xs : List V) : Prop :=
  Rd H a (.tup xs) ∨
    ∃ (o : Obj) (its : Array Value) (n : Nat), K.lookup a = some o ∧ o.cls = .type "tuple" ∧ o.data = .seq its n ∧ its.size ≤ sizeLine ∧ Vals xs its.toList
def absV : Value → Option V
  | .none => some .non
  | .bool b => some (.bl b)
  | .int i _ => some (.int i)
  | .str x _ => some (.str x)
  | .bytes b _ => some (.byt b)
  | .float b _ => some (.flt b)
  | .ref a => some (.ref a)
  | .type n => some (.ty n)
  | _ => none
theorem RelV.abs {x : V} {u : Value} (r : RelV x u) : absV u = some x := by
  cases x with
  | non => cases r; rfl
  | bl _ => cases r; rfl
  | int _ => obtain ⟨t, rfl⟩ := r; rfl
  | str _ => obtain ⟨t, rfl⟩ := r; rfl
  | byt _ => obtain ⟨t, rfl⟩ := r; rfl
  | flt _ => obtain ⟨t, rfl⟩ := r; rfl
  | ref _ => cases r; rfl
  | ty _ => cases r; rfl
theorem RelV.inj {x y : V} {u : Value} (r : RelV x u) (q : RelV y u) : x = y := Option.some.inj (r.abs.symm.trans q.abs)
theorem Vals.inj : ∀ {xs ys : List V} {us : List Value}, Vals xs us → Vals ys us → xs = ys
  | _, _, _, .nil, .nil => rfl
  | _, _, _, .cons r t, .cons r' t' => by rw [r.inj r', Vals.inj t t']
section
variable {X : Cx} {pins : List (Addr × Obj)} {σ : St} {H : Hp} {s : Shared} {a : Addr} {xs ys : List V}
theorem SqL.of {K : PySem.W.Frag} (h : H a = some (.lst xs)) : SqL K H a xs := .inl (.inl h)
theorem SqT.of {K : PySem.W.Frag} (h : H a = some (.tup xs)) : SqT K H a xs := .inl (.inl h)
theorem Inv.list (I : Inv X pins σ H s) (h : SqL X.K H a xs) : ∃ its : List Value, Vals xs its ∧ PlainL s.heap a its.toArray ∧ xs.length ≤ sizeLine := by
  rcases h with h | ⟨o, its, n, hk, hc, hd, hs, hz, r⟩
  · obtain ⟨z, its, n, r, e⟩ := h.ok I.hok
    exact ⟨its, r, ⟨_, n, e, rfl, rfl, rfl⟩, z⟩
  · refine ⟨its.toList, r, ⟨o, n, I.kIn a o hk, hc, hd, by simpa using hs⟩, ?_⟩
    have e := r.length
    simp only [Array.length_toList] at e
    omega
theorem Inv.tuple (I : Inv X pins σ H s) (h : SqT X.K H a xs) : ∃ its : List Value, Vals xs its ∧ IsTup s.heap a its.toArray ∧ xs.length ≤ sizeLine := by
  rcases h with h | ⟨o, its, n, hk, hc, hs, hz, r⟩
  · obtain ⟨z, its, r, p⟩ := h.ok I.hok
    exact ⟨its, r, p, z⟩
  · refine ⟨its.toList, r, ⟨o, I.kIn a o hk, hc, n, by simpa using hs⟩, ?_⟩
    have e := r.length
    simp only [Array.length_toList] at e
    omega
theorem Inv.list_inj (I : Inv X pins σ H s) (h : SqL X.K H a xs) (h' : SqL X.K H a ys) : xs = ys := by
  obtain ⟨its, r, ⟨o, n, e, _, _, d⟩, _⟩ := I.list h
  obtain ⟨its', r', ⟨o', n', e', _, _, d'⟩, _⟩ := I.list h'
  rw [e] at e'; cases e'
  rw [d] at d'
  injection d' with d1 _
  have : its = its' := by simpa using congrArg Array.toList d1
  subst this
  exact r.inj r'
theorem Inv.tuple_inj (I : Inv X pins σ H s) (h : SqT X.K H a xs) (h' : SqT X.K H a ys) : xs = ys := by
  obtain ⟨its, r, ⟨o, e, _, n, d⟩, _⟩ := I.tuple h
  obtain ⟨its', r', ⟨o', e', _, n', d'⟩, _⟩ := I.tuple h'
  rw [e] at e'; cases e'
  rw [d] at d'
  injection d' with d1 _
  have : its = its' := by simpa using congrArg Array.toList d1
  subst this
  exact r.inj r'
end


abbrev Cx.wish (X : Cx) (E : Value → Shared → Prop) : Cx := { X with xe := E }

abbrev Cx.nox (X : Cx) : Cx := X.wish fun _ _ => False
theorem Cx.Ok.wish {X : Cx} (ok : X.Ok) (E : Value → Shared → Prop) : (X.wish E).Ok :=
  ⟨ok.mod, ok.kind, ok.glob, ok.blt, ok.above, ok.inj, ok.has, ok.cab, ok.hd, ok.frames, ok.stk, ok.exf, ok.bs, ok.bsz, ok.noex, ok.exfs, ok.funs, ok.frf⟩
theorem Cx.Ok.unwish {X : Cx} {E : Value → Shared → Prop} (ok : (X.wish E).Ok) : X.Ok :=
  ⟨ok.mod, ok.kind, ok.glob, ok.blt, ok.above, ok.inj, ok.has, ok.cab, ok.hd, ok.frames, ok.stk, ok.exf, ok.bs, ok.bsz, ok.noex, ok.exfs, ok.funs, ok.frf⟩
section
variable {X : Cx} {pins : List (Addr × Obj)} {σ : St} {H : Hp} {s : Shared} {E : Value → Shared → Prop}
theorem Inv.wish (I : Inv X pins σ H s) (E : Value → Shared → Prop) : Inv (X.wish E) pins σ H s := ⟨I.ok.wish E, I.os, I.bare, I.base, I.loc, I.cell, I.free, I.freeC, I.pin, I.hok, I.len⟩
theorem Inv.unwish (I : Inv (X.wish E) pins σ H s) : Inv X pins σ H s := ⟨I.ok.unwish, I.os, I.bare, I.base, I.loc, I.cell, I.free, I.freeC, I.pin, I.hok, I.len⟩
theorem SP.unwish {D : Ends} {f : Flow} {s' : Shared} (h : SP (X.wish E) pins D f s') : SP X pins D f s' := by
  cases f with
  | next => obtain ⟨σ', H', I, q⟩ := h; exact ⟨σ', H', I.unwish, q⟩
  | brk => obtain ⟨σ', H', I, q⟩ := h; exact ⟨σ', H', I.unwish, q⟩
  | cont => obtain ⟨σ', H', I, q⟩ := h; exact ⟨σ', H', I.unwish, q⟩
  | ret u => obtain ⟨v, σ', H', I, r, q⟩ := h; exact ⟨v, σ', H', I.unwish, r, q⟩
theorem PSs.nox {st : List Stmt} {t : TS} (h : PSs X.nox st t) : PSs X st t := fun pins s σ H D I hw =>
  wpAny_mono (h pins s σ H D (I.wish _) hw) (fun _ _ q => q.unwish) fun _ _ z => False.elim z
end


section
variable {X : Cx} {st : Stmt} {rest : List Stmt} {t u : TS} {e : Expr} {te : TE} {pos : Pos}
def tNext : TS := fun D σ H => D.nx σ H
def tSeq (t u : TS) : TS := fun D σ H => t { D with nx := u D } σ H
theorem pss_nil : PSs X [] tNext := fun _ _ σ H _ I h => wpAny_execs_nil ⟨σ, H, I, h⟩
theorem pss_cons (h1 : PS X st t) (h2 : PSs X rest u) : PSs X (st :: rest) (tSeq t u) := by
  intro pins s σ H D I h
  refine wpAny_execs_cons (thn (h1 pins s σ H { D with nx := u D } I h) fun f s1 q => ?_)
  cases f with
  | next =>
    obtain ⟨σ', H', I', q⟩ := q
    exact h2 pins s1 σ' H' D I' q
  | ret v => exact q
  | brk => exact q
  | cont => exact q
theorem pss_one (h1 : PS X st t) : PSs X [st] t := by
  intro pins s σ H D I h
  refine wpAny_execs_cons (thn (h1 pins s σ H D I h) fun f s1 q => ?_)
  cases f with
  | next => exact wpAny_execs_nil q
  | ret v => exact q
  | brk => exact q
  | cont => exact q
def tBreak : TS := fun D σ H => D.bk σ H
def tCont : TS := fun D σ H => D.ct σ H
theorem Inv.quiet {pins : List (Addr × Obj)} {σ : St} {H : Hp} {s : Shared} (I : Inv X pins σ H s) : interactive X.env = false := by simp [interactive, I.ok.kind]

def tDrop (te : TE) : TS := fun D σ H => te σ H fun _ H1 => D.nx σ H1
theorem ps_expr (he : PE X e te) (hs : swapsWith e none pos.line X.env = pure false := by rfl) : PS X (.Expr e pos) (tDrop te) := by
  intro pins s σ H D I h
  exact wpAny_Expr_any (thn (he pins s σ H _ I h) fun v s1 ⟨x, H1, I1, r1, q1⟩ => ⟨σ, H1, I1, q1⟩) I.quiet hs
def tRet (te : TE) : TS := fun D σ H => te σ H D.rt
theorem ps_ret (he : PE X e te) : PS X (.Return (some e) pos) (tRet te) := by
  intro pins s σ H D I h
  exact wpAny_Return_some (thn (he pins s σ H _ I h) fun v s1 ⟨x, H1, I1, r1, q1⟩ => ⟨x, σ, H1, I1, r1, q1⟩)
def tRetN : TS := fun D _ H => D.rt .non H
def tIfS (c : TT) (t u : TS) : TS := fun D σ H => c σ H fun b H1 => if b = true then t D σ H1 else u D σ H1
theorem ps_if {c : Expr} {a b : List Stmt} {tc : TT} (hc : PT X c tc) (ha : PSs X a t) (hb : PSs X b u) : PS X (.If c a b pos) (tIfS tc t u) := by
  intro pins s σ H D I h
  refine wpAny_If (thn (hc pins s σ H _ I h) fun d s1 ⟨H1, I1, q1⟩ => ?_)
  cases d with
  | true => exact ha pins s1 σ H1 D I1 q1
  | false => exact hb pins s1 σ H1 D I1 q1

def tNever : TS := fun _ _ _ => False
end


abbrev TG := V → St → Hp → (St → Hp → Prop) → Prop
abbrev TGs := List V → St → Hp → (St → Hp → Prop) → Prop
def PG (X : Cx) (target : Expr) (t : TG) : Prop :=
  ∀ (pins : List (Addr × Obj)) (s : Shared) (σ : St) (H : Hp) (v : V) (u : Value) (Q : St → Hp → Prop), Inv X pins σ H s → RelV v u → t v σ H Q →
    wpAny (model X.prog X.w) X.A (assign target X.env u) (fun _ s' => ∃ σ' H', Inv X pins σ' H' s' ∧ Q σ' H') X.xe s

def PGs (X : Cx) (ts : List Expr) (t : TGs) : Prop :=
  ∀ (pins : List (Addr × Obj)) (s : Shared) (σ : St) (H : Hp) (vs : List V) (us : List Value) (Q : St → Hp → Prop), Inv X pins σ H s → Vals vs us → t vs σ H Q →
    wpAny (model X.prog X.w) X.A (assignInOrder ((assignEach ts X.env).map (·.2)) us) (fun _ s' => ∃ σ' H', Inv X pins σ' H' s' ∧ Q σ' H') X.xe s

abbrev TSet := V → V → V → Hp → (Hp → Prop) → Prop
def PSet (X : Cx) (t : TSet) : Prop :=
  ∀ (pins : List (Addr × Obj)) (s : Shared) (σ : St) (H : Hp) (o i v : V) (ov iv u : Value) (Q : Hp → Prop), Inv X pins σ H s → RelV o ov → RelV i iv → RelV v u → t o i v H Q →
    wpAny (model X.prog X.w) X.A (setItem ov iv u) (fun _ s' => ∃ H', Inv X pins σ H' s' ∧ Q H') X.xe s

abbrev TIp := V → V → Hp → VK → Prop
def PIp (X : Cx) (op : Operator) (t : TIp) : Prop :=
  ∀ (pins : List (Addr × Obj)) (s : Shared) (σ : St) (H : Hp) (x y : V) (v u : Value) (Q : VK), Inv X pins σ H s → RelV x v → RelV y u → t x y H Q →
    wpAny (model X.prog X.w) X.A (inplaceOp op v u) (EP X pins σ Q) X.xe s
section
variable {X : Cx} {pos : Pos}
def gName (i : Nat) : TG := fun v σ H Q => Q (σ.set i (some v)) H
theorem pg_name {i : Nat} {x : Str} (hN : X.N.Nodup) (hi : X.N[i]? = some x) (hx : Loc X.env.scope x) (hf : X.fn x = true ∨ X.env.scope.names.lookup x = some .local := by first | exact .inl rfl | exact .inr rfl | assumption) : PG X (.Name x pos) (gName i) := by
  intro pins s σ H v u Q I r h
  exact wpAny_assign_Name (store_ok I hN hi hx r (fun s' I' => ⟨_, H, I', h⟩) hf)
def gNil : TGs := fun vs σ H Q => vs = [] ∧ Q σ H
def gCons (t : TG) (u : TGs) : TGs := fun vs σ H Q => ∃ v r, vs = v :: r ∧ t v σ H fun σ' H' => u r σ' H' Q
theorem pgs_nil : PGs X [] gNil := by
  intro pins s σ H vs us Q I r h
  obtain ⟨e, h⟩ := h
  subst e
  cases r
  exact assignInOrder_nil ⟨σ, H, I, h⟩
theorem pgs_cons {e : Expr} {es : List Expr} {t : TG} {u : TGs} (h1 : PG X e t) (h2 : PGs X es u)
    (hs : (assignEach (e :: es) X.env).map (·.2) = assign e X.env :: (assignEach es X.env).map (·.2) := by rfl) : PGs X (e :: es) (gCons t u) := by
  intro pins s σ H vs us Q I r h
  obtain ⟨v, vr, e1, h⟩ := h
  subst e1
  cases r with
  | cons r rr =>
    rw [hs]
    refine assignInOrder_cons (thn (h1 pins s σ H _ _ _ I r h) fun _ s1 ⟨σ1, H1, I1, q1⟩ => ?_)
    exact h2 pins s1 σ1 H1 _ _ Q I1 rr q1

def gTup (K : PySem.W.Frag) (n : Nat) (t : TGs) : TG := fun v σ H Q => ∃ a xs, v = .ref a ∧ SqT K H a xs ∧ xs.length = n ∧ t xs σ H Q
theorem pg_tup {es : List Expr} {k : Nat} {t : TGs} {n : Nat} (hc : X.calm = true) (h : PGs X es t)
    (hn : (assignEach es X.env).length = n := by rfl) (hst : (assignEach es X.env).findIdx? (·.1) = none := by rfl) : PG X (.Tuple es k pos) (gTup X.K n t) := by
  intro pins s σ H v u Q I r hw
  obtain ⟨a, xs, e1, hq, hl, hw⟩ := hw
  subst e1
  cases r
  obtain ⟨its, rv, ht, hz⟩ := I.tuple hq
  refine assign_Tuple_tuple (I.ok.hd hc) ht (by simp [hn, ← hl, rv.length]) hst fun h' hx => ?_
  have I1 : Inv X pins σ H { s with heap := h' } := I.kept (t' := s.toks) fun b o e => hx b o (Nat.ne_of_lt (Heap.lt_size e)) e
  exact h pins _ σ H xs _ Q I1 (by simpa using rv) hw

def gSub (to ti : TE) (t : TSet) : TG := fun v σ H Q => to σ H fun o H1 => ti σ H1 fun i H2 => t o i v H2 fun H3 => Q σ H3
def tAsg (te : TE) (g : TG) : TS := fun D σ H => te σ H fun x H1 => g x σ H1 D.nx
theorem ps_asg {tg e : Expr} {te : TE} {g : TG} (he : PE X e te) (hg : PG X tg g) (hs : swapsWithSole [tg] e pos.line X.env = pure false := by rfl) (hw : swappedStores [tg] e X.env = pure none := by rfl)
    (h1 : (assignEach [tg] X.env).map (·.2) = [assign tg X.env] := by rfl) : PS X (.Assign [tg] e pos) (tAsg te g) := by
  intro pins s σ H D I h
  refine wpAny_Assign_stores (thn (he pins s σ H _ I h) fun v s1 ⟨x, H1, I1, r1, q1⟩ => ?_) hs hw
  rw [h1]
  exact thn (hg pins s1 σ H1 x v _ I1 r1 q1) fun _ s2 q => q

theorem ps_set {i : Nat} {x : Str} {e : Expr} {te : TE} {pos' : Pos} (hN : X.N.Nodup) (hi : X.N[i]? = some x) (hx : Loc X.env.scope x) (he : PE X e te) (hs : swapsWith e (some (.Name x pos')) pos.line X.env = pure false := by rfl) (hf : X.fn x = true ∨ X.env.scope.names.lookup x = some .local := by first | exact .inl rfl | exact .inr rfl | assumption) :
    PS X (.Assign [.Name x pos'] e pos) (tAsg te (gName i)) := by
  intro pins s σ H D I h
  refine wpAny_Assign_Name (thn (he pins s σ H _ I h) fun v s1 ⟨y, H1, I1, r1, q1⟩ => ?_) hs
  exact store_ok I1 hN hi hx r1 (fun s2 I2 => ⟨_, H1, I2, q1⟩) hf

def tPar (i j : Nat) (ta : TA) : TS := fun D σ H => ta σ H fun vs H1 => ∃ v w, vs = [v, w] ∧ D.nx ((σ.set i (some v)).set j (some w)) H1
def tAug (i : Nat) (te : TE) (ti : TIp) : TS := fun D σ H => ∃ x, σ[i]? = some (some x) ∧ te σ H fun y H1 => ti x y H1 fun z H2 => D.nx (σ.set i (some z)) H2
def tAugS (to ti te : TE) (tget : V → V → Hp → VK → Prop) (tip : TIp) (tset : TSet) : TS := fun D σ H => to σ H fun o H1 => ti σ H1 fun i H2 => tget o i H2 fun x H3 => te σ H3 fun y H4 => tip x y H4 fun z H5 => tset o i z H5 fun H6 => D.nx σ H6

def PGet (X : Cx) (t : V → V → Hp → VK → Prop) : Prop :=
  ∀ (pins : List (Addr × Obj)) (s : Shared) (σ : St) (H : Hp) (o i : V) (ov iv : Value) (Q : VK), Inv X pins σ H s → RelV o ov → RelV i iv → t o i H Q →
    wpAny (model X.prog X.w) X.A (getItem ov iv) (EP X pins σ Q) X.xe s
def ipI (f : Int → Int → Int) : TIp := fun x y H Q => ∃ i j, x = .int i ∧ y = .int j ∧ Q (.int (f i j)) H
end


section
variable {X : Cx} {pos : Pos}

def tWhile (c : TT) (tb : TS) : TS := fun D σ H => ∃ W : Nat → St → Hp → Prop, (∃ m, W m σ H) ∧ ∀ m σ H, W m σ H →
  c σ H fun b H1 => if b = true then ∃ N : St → Hp → Prop, (∀ σ' H', N σ' H' → ∃ m', m' < m ∧ W m' σ' H') ∧ tb { D with nx := N, ct := N, bk := D.nx } σ H1 else D.nx σ H1
theorem ps_while {c : Expr} {body : List Stmt} {tc : TT} {tb : TS} (hp : PassesOwn (model X.prog X.w) X.A X.env X.xe) (hc : PT X c tc) (hb : PSs X body tb) : PS X (.While c body [] pos) (tWhile tc tb) := by
  intro pins s σ H D I h
  obtain ⟨W, ⟨m0, w0⟩, turn⟩ := h
  refine wpAny_While (codeAny_whileLoop (fun n s' => ∃ σ' H', Inv X pins σ' H' s' ∧ W n σ' H') ?_ m0 ⟨σ, H, I, w0⟩)
  rintro n s1 ⟨σ1, H1, I1, w1⟩
  refine wpAny_passesOwn hp (thn (hc pins s1 σ1 H1 _ I1 (turn n σ1 H1 w1)) fun b s2 ⟨H2, I2, q2⟩ => ?_)
  cases b with
  | true =>
    obtain ⟨N, hN, q2⟩ := q2
    rw [if_pos rfl]
    refine wpAny_passesOwn hp (thn (hb pins s2 σ1 H2 _ I2 q2) fun f s3 q3 => ?_)
    cases f with
    | next =>
      obtain ⟨σ3, H3, I3, n3⟩ := q3
      obtain ⟨m', hm, w3⟩ := hN σ3 H3 n3
      exact ⟨m', hm, σ3, H3, I3, w3⟩
    | cont =>
      obtain ⟨σ3, H3, I3, n3⟩ := q3
      obtain ⟨m', hm, w3⟩ := hN σ3 H3 n3
      exact ⟨m', hm, σ3, H3, I3, w3⟩
    | brk => exact q3
    | ret v => exact q3
  | false =>
    rw [if_neg Bool.false_ne_true]
    exact wpAny_execs_nil ⟨σ1, H2, I2, q2⟩
end



structure It where
  go : Nat → Hp → Prop
  yld : Nat → Hp → V → Hp → Prop
  stop : Nat → Hp → Prop

def FpOk (X : Cx) (pins : List (Addr × Obj)) (H : Hp) (b : Addr) : Prop :=
  H b = none ∧ b ≠ X.env.locals ∧ b ∉ X.fs ∧ (b ∈ X.ex ∨ X.s₀.heap.objs.size ≤ b) ∧ (∀ x c, X.env.cells.lookup x = some c → c ≠ b) ∧ ∀ p ∈ X.pn ++ pins, p.1 ≠ b
theorem Inv.fpOk {X : Cx} {pins : List (Addr × Obj)} {σ : St} {H H' : Hp} {s : Shared} {b : Addr} (I : Inv X pins σ H s) (hb : s.heap.objs.size ≤ b) (hn : H' b = none) : FpOk X pins H' b := by
  refine ⟨hn, Nat.ne_of_gt (Nat.lt_of_lt_of_le I.lt hb), I.nofs hb, .inr (Nat.le_trans I.sz hb), fun x c e z => ?_, fun p hp z => ?_⟩
  · obtain ⟨v, q⟩ := I.cell x c e
    exact absurd (Nat.lt_of_lt_of_le q.lt (by rw [z]; exact hb)) (Nat.lt_irrefl _)
  · exact absurd (Nat.lt_of_lt_of_le (Heap.lt_size (I.pin p hp).1) (by rw [z]; exact hb)) (Nat.lt_irrefl _)
structure Turn (P : Program) (w : World) (K : PySem.W.Frag) (tg : Expr) (J : It) (fp : List Addr) (it : Addr) (tn : Nat → Heap → Prop) : Prop where
  mem : it ∈ fp
  obj : ∀ i h, tn i h → ∀ b ∈ fp, ∃ o, h.get? b = some o ∧ ∀ v, o.data ≠ .cell v
  keep : ∀ i h h', tn i h → (∀ b ∈ fp, ∀ o, h.get? b = some o → h'.get? b = some o) → tn i h'
  item : ∀ (X : Cx), X.prog = P → X.w = w → X.K = K → X.calm = true → ∀ (i : Nat) (pins : List (Addr × Obj)) (s : Shared) (σ : St) (H : Hp) (E : Value → Shared → Prop), Inv X pins σ H s → (∀ b ∈ fp, FpOk X pins H b) → tn i s.heap → J.go i H →
    wpAny (model P w) X.A (pyNext (.ref it)) (fun r s1 => ∃ u, r = some u ∧
      wpAny (model P w) X.A (letOwnedTupleGo tg (.ref it) u) (fun _ s2 => ∃ x H', Inv X pins σ H' s2 ∧ RelV x u ∧ J.yld i H x H' ∧ tn (i + 1) s2.heap ∧ ∀ b ∈ fp, H' b = none) E s1) E s
  done : ∀ (X : Cx), X.prog = P → X.w = w → X.K = K → X.calm = true → ∀ (i : Nat) (pins : List (Addr × Obj)) (s : Shared) (σ : St) (H : Hp) (E : Value → Shared → Prop), Inv X pins σ H s → (∀ b ∈ fp, FpOk X pins H b) → tn i s.heap → J.stop i H →
    wpAny (model P w) X.A (pyNext (.ref it)) (fun r s1 => r = none ∧ Inv X pins σ H s1) E s
  self : ∀ (A : Around) (i : Nat) (s : Shared) (Q : Value → Shared → Prop) (E : Value → Shared → Prop), tn i s.heap → Q (.ref it) s → wpAny (model P w) A (pyIter (.ref it)) Q E s
abbrev TI := St → Hp → (It → Hp → Prop) → Prop

def PIE (X : Cx) (pins : List (Addr × Obj)) (σ : St) (tg : Expr) (R : It → Hp → Prop) (itv : Value) (s2 : Shared) : Prop :=
  ∃ (it : Addr) (fp : List Addr) (tn : Nat → Heap → Prop) (J : It) (H' : Hp), itv = .ref it ∧ Inv X pins σ H' s2 ∧ Turn X.prog X.w X.K tg J fp it tn ∧ tn 0 s2.heap ∧ (∀ b ∈ fp, FpOk X pins H' b) ∧ R J H'
def PI (X : Cx) (tg iter : Expr) (wi : TI) : Prop :=
  ∀ (pins : List (Addr × Obj)) (s : Shared) (σ : St) (H : Hp) (R : It → Hp → Prop), Inv X pins σ H s → wi σ H R →
    wpAny (model X.prog X.w) X.A (eval iter X.env) (fun v s1 => wpAny (model X.prog X.w) X.A (pyIter v) (PIE X pins σ tg R) X.xe s1) X.xe s


theorem go_of {M : Model} {A : Around} {E : Value → Shared → Prop} {s : Shared} {tg : Expr} {it : Addr} {u : Value} {o : Obj} {n : String} {vs : Array Value} {Q : Unit → Shared → Prop} (ho : s.heap.get? it = some o) (hc : o.cls = .type n) (hd : o.data = .fields vs)
    (hn : ["enumerate", "zip", "dict_itemiterator", "dict_reverseitemiterator", "odict_iterator", "itertools.zip_longest", "itertools.pairwise"].contains n = false) (hQ : Q () s) : wpAny M A (letOwnedTupleGo tg (.ref it) u) Q E s := by
  unfold letOwnedTupleGo
  cases tg <;> first
    | exact wpAny_pure hQ
    | (cases u <;> first
        | exact wpAny_pure hQ
        | (refine wpAny_bind (wpAny_load ho ?_)
           rw [hc, hd]
           show wpAny M A (if (["enumerate", "zip", "dict_itemiterator", "dict_reverseitemiterator", "odict_iterator", "itertools.zip_longest", "itertools.pairwise"].contains n && vs[0]? == some (rawInt _)) = true then _ else _) Q E s
           rw [if_neg (by intro h; rw [hn, Bool.false_and] at h; cases h)]
           exact wpAny_pure hQ))


def Itl (K : PySem.W.Frag) (a : Addr) : It :=
  ⟨fun i H => ∃ xs x, SqL K H a xs ∧ xs[i]? = some x, fun i H x H' => H' = H ∧ ∀ xs, SqL K H a xs → xs[i]? = some x, fun i H => ∃ xs, SqL K H a xs ∧ xs.length ≤ i⟩
def Itt (K : PySem.W.Frag) (a : Addr) : It :=
  ⟨fun i H => ∃ xs x, SqT K H a xs ∧ xs[i]? = some x, fun i H x H' => H' = H ∧ ∀ xs, SqT K H a xs → xs[i]? = some x, fun i H => ∃ xs, SqT K H a xs ∧ xs.length ≤ i⟩

def Itr (lo : Int) (n : Nat) : It := ⟨fun i _ => i < n, fun i H x H' => H' = H ∧ x = .int (lo + i), fun i _ => n ≤ i⟩
theorem turn_list {P : Program} {w : World} {K : PySem.W.Frag} {tg : Expr} (a it : Addr) : Turn P w K tg (Itl K a) [it] it (fun i h => h.IsListIter it a i) where
  mem := by simp
  obj := fun i h st b hb => by
    have e : b = it := by simpa using hb
    subst e
    obtain ⟨o, e, c, d⟩ := st
    exact ⟨o, e, fun v z => by rw [d] at z; cases z⟩
  keep := fun i h h' st k => st.at fun o e => k it (by simp) o e
  item := by
    intro X hP hw hK hc i pins s σ H E I hf st hg
    subst hP hw hK
    obtain ⟨xs, x, hq, hx⟩ := hg
    obtain ⟨its, rv, p, hz⟩ := I.list hq
    obtain ⟨u, hu, ru⟩ := rv.get hx
    obtain ⟨f0, f1, f2, f3, f4, f5⟩ := hf it (by simp)
    refine wpAny_pyNext_list_item st p.isList (x := u) (by simpa using hu) fun h' st' sb => ?_
    have I1 : Inv X pins σ H { s with heap := h' } := I.turned (t' := s.toks) (fun b o hb e => (sb.2 b hb).trans e) f0 f1 f3 f4 f5
    obtain ⟨o, e, c, d⟩ := id st'
    exact ⟨u, rfl, go_of (s := { s with heap := h' }) e c d (by decide) ⟨x, H, I1, ru, ⟨rfl, fun ys hy => by rw [I.list_inj hy hq]; exact hx⟩, st', fun b hb => (hf b hb).1⟩⟩
  done := by
    intro X hP hw hK hc i pins s σ H E I hf st hg
    subst hP hw hK
    obtain ⟨xs, hq, hx⟩ := hg
    obtain ⟨its, rv, p, hz⟩ := I.list hq
    obtain ⟨f0, f1, f2, f3, f4, f5⟩ := hf it (by simp)
    have hl := rv.length
    exact wpAny_pyNext_list_end (I.ok.hd hc) st p.isList (by simp; omega) fun h' eb => ⟨rfl, I.turned (t' := s.toks) (fun b o hb e => eb b o hb e) f0 f1 f3 f4 f5⟩
  self := fun _ _ _ _ _ st h => wpAny_pyIter_listiter st h
theorem turn_tuple {P : Program} {w : World} {K : PySem.W.Frag} {tg : Expr} (a it : Addr) : Turn P w K tg (Itt K a) [it] it (fun i h => h.IsTupleIter it a i) where
  mem := by simp
  obj := fun i h st b hb => by
    have e : b = it := by simpa using hb
    subst e
    obtain ⟨o, e, c, d⟩ := st
    exact ⟨o, e, fun v z => by rw [d] at z; cases z⟩
  keep := fun i h h' st k => st.at fun o e => k it (by simp) o e
  item := by
    intro X hP hw hK hc i pins s σ H E I hf st hg
    subst hP hw hK
    obtain ⟨xs, x, hq, hx⟩ := hg
    obtain ⟨its, rv, p, hz⟩ := I.tuple hq
    obtain ⟨u, hu, ru⟩ := rv.get hx
    obtain ⟨f0, f1, f2, f3, f4, f5⟩ := hf it (by simp)
    refine wpAny_pyNext_tuple_item st (show s.heap.IsTuple a its.toArray from p) (x := u) (by simpa using hu) fun h' st' sb => ?_
    have I1 : Inv X pins σ H { s with heap := h' } := I.turned (t' := s.toks) (fun b o hb e => (sb.2 b hb).trans e) f0 f1 f3 f4 f5
    obtain ⟨o, e, c, d⟩ := id st'
    exact ⟨u, rfl, go_of (s := { s with heap := h' }) e c d (by decide) ⟨x, H, I1, ru, ⟨rfl, fun ys hy => by rw [I.tuple_inj hy hq]; exact hx⟩, st', fun b hb => (hf b hb).1⟩⟩
  done := by
    intro X hP hw hK hc i pins s σ H E I hf st hg
    subst hP hw hK
    obtain ⟨xs, hq, hx⟩ := hg
    obtain ⟨its, rv, p, hz⟩ := I.tuple hq
    obtain ⟨f0, f1, f2, f3, f4, f5⟩ := hf it (by simp)
    have hl := rv.length
    exact wpAny_pyNext_tuple_end (I.ok.hd hc) st (show s.heap.IsTuple a its.toArray from p) (by simp; omega) fun h' eb => ⟨rfl, I.turned (t' := s.toks) (fun b o hb e => eb b o hb e) f0 f1 f3 f4 f5⟩
  self := fun _ _ _ _ _ st h => wpAny_pyIter_tupleiter st h
theorem turn_range {P : Program} {w : World} {K : PySem.W.Frag} {tg : Expr} (it : Addr) (lo : Int) (n : Nat) : Turn P w K tg (Itr lo n) [it] it (fun i h => IsRangeIter h it (lo + (i : Nat) * 1) ((n : Int) - (i : Nat)) 1) where
  mem := by simp
  obj := fun i h st b hb => by
    have e : b = it := by simpa using hb
    subst e
    exact ⟨_, st, fun v z => by
      have z' : Data.fields _ = Data.cell v := z
      cases z'⟩
  keep := fun i h h' st k => k it (by simp) _ st
  item := by
    intro X hP hw hK hc i pins s σ H E I hf st hg
    subst hP hw hK
    obtain ⟨f0, f1, f2, f3, f4, f5⟩ := hf it (by simp)
    have W := Walks.range (prog := X.prog) (w := X.w) (I.ok.hd hc) it lo 1 n
    refine W.item i s _ _ hg st fun v h' tk hv st' kk => ?_
    obtain ⟨t, rfl⟩ := hv
    have I1 : Inv X pins σ H { s with heap := h', toks := tk } := I.turned (fun b o hb e => kk b o (by simpa using hb) e) f0 f1 f3 f4 f5
    refine ⟨_, rfl, go_of (s := { s with heap := h', toks := tk }) (n := "range_iterator") st' rfl rfl (by decide) ⟨.int (lo + i), H, I1, ⟨t, ?_⟩, ⟨rfl, rfl⟩, st', fun b hb => (hf b hb).1⟩⟩
    rw [Int.mul_one]
  done := by
    intro X hP hw hK hc i pins s σ H E I hf st hg
    subst hP hw hK
    obtain ⟨f0, f1, f2, f3, f4, f5⟩ := hf it (by simp)
    exact wpAny_pyNext_range_end (I.ok.hd hc) st (by have : n ≤ i := hg; omega) fun h' eb => ⟨rfl, I.turned (t' := s.toks) (fun b o hb e => eb b o hb e) f0 f1 f3 f4 f5⟩
  self := fun _ _ _ _ _ st h => wpAny_pyIter_rangeiter st h
end L2

namespace L2
open PySem PySem.Spec PyProof.Rows
section
variable {X : Cx} {tg : Expr}
def iList (K : PySem.W.Frag) (tl : TE) : TI := fun σ H R => tl σ H fun x H1 => ∃ a, x = .ref a ∧ (∃ xs, SqL K H1 a xs) ∧ R (Itl K a) H1
def iTup (K : PySem.W.Frag) (tl : TE) : TI := fun σ H R => tl σ H fun x H1 => ∃ a, x = .ref a ∧ (∃ xs, SqT K H1 a xs) ∧ R (Itt K a) H1
theorem pi_list {l : Expr} {tl : TE} (hl : PE X l tl) : PI X tg l (iList X.K tl) := by
  intro pins s σ H R I h
  refine thn (hl pins s σ H _ I h) fun v s1 ⟨x, H1, I1, r1, q1⟩ => ?_
  obtain ⟨a, e, ⟨xs, hq⟩, q⟩ := q1
  subst e
  cases r1
  obtain ⟨its, rv, p, hz⟩ := I1.list hq
  refine wpAny_pyIter_list p.isList ?_
  refine ⟨s1.heap.objs.size, [s1.heap.objs.size], _, _, H1, rfl, I1.kept (t' := s1.toks) fun b o e => Heap.get?_push_of_some _ e, turn_list a _, ⟨_, Heap.get?_push_size _ rfl, rfl, rfl⟩, fun b hb => ?_, q⟩
  have e : b = s1.heap.objs.size := by simpa using hb
  subst e
  exact I1.fpOk (Nat.le_refl _) (I1.hok.fresh (Nat.le_refl _))
theorem pi_tup {l : Expr} {tl : TE} (hl : PE X l tl) : PI X tg l (iTup X.K tl) := by
  intro pins s σ H R I h
  refine thn (hl pins s σ H _ I h) fun v s1 ⟨x, H1, I1, r1, q1⟩ => ?_
  obtain ⟨a, e, ⟨xs, hq⟩, q⟩ := q1
  subst e
  cases r1
  obtain ⟨its, rv, p, hz⟩ := I1.tuple hq
  refine wpAny_pyIter_tuple (show s1.heap.IsTuple a its.toArray from p) ?_
  refine ⟨s1.heap.objs.size, [s1.heap.objs.size], _, _, H1, rfl, I1.kept (t' := s1.toks) fun b o e => Heap.get?_push_of_some _ e, turn_tuple a _, ⟨_, Heap.get?_push_size _ rfl, rfl, rfl⟩, fun b hb => ?_, q⟩
  have e : b = s1.heap.objs.size := by simpa using hb
  subst e
  exact I1.fpOk (Nat.le_refl _) (I1.hok.fresh (Nat.le_refl _))

theorem range_it {pins : List (Addr × Obj)} {σ : St} {H : Hp} {s : Shared} {R : It → Hp → Prop} {E : Value → Shared → Prop} {lo hi : Int} {t u v : Tok} {tk : Nat} (I : Inv X pins σ H s) (h1 : -(2 ^ 62) ≤ lo) (h2 : lo < 2 ^ 62) (h3 : -(2 ^ 62) ≤ hi) (h4 : hi < 2 ^ 62)
    (q : R (Itr lo (hi - lo).toNat) H) : wpAny (model X.prog X.w) X.A (pyIter (.ref s.heap.objs.size)) (PIE X pins σ tg R) E { s with heap := s.heap.push { cls := .type "range", data := .fields #[.int lo t, .int hi u, .int 1 v] }, toks := tk } := by
  refine wpAny_pyIter_range (IsRange.new ..) (small_one h1 h2 h3 h4) ?_
  have I1 : Inv X pins σ H { s with heap := s.heap.push { cls := .type "range", data := .fields #[.int lo t, .int hi u, .int 1 v] }, toks := tk } := I.kept fun b o e => Heap.get?_push_of_some _ e
  refine ⟨(s.heap.push { cls := .type "range", data := .fields #[.int lo t, .int hi u, .int 1 v] }).objs.size, [(s.heap.push { cls := .type "range", data := .fields #[.int lo t, .int hi u, .int 1 v] }).objs.size], _, _, H, rfl,
    I1.kept (t' := tk) fun b o e => Heap.get?_push_of_some _ e, turn_range _ lo (hi - lo).toNat, ?_, fun b hb => ?_, q⟩
  · have e1 : lo + ((0 : Nat) : Int) * 1 = lo := by simp
    have e2 : (((hi - lo).toNat : Nat) : Int) - ((0 : Nat) : Int) = Builtin.Range.rangeSize lo hi 1 := by rw [rangeSize_one]; split <;> omega
    show IsRangeIter _ _ (lo + ((0 : Nat) : Int) * 1) ((((hi - lo).toNat : Nat) : Int) - ((0 : Nat) : Int)) 1
    rw [e1, e2]
    exact Heap.get?_push_size _ rfl
  · have e : b = (s.heap.push { cls := .type "range", data := .fields #[.int lo t, .int hi u, .int 1 v] }).objs.size := by simpa using hb
    subst e
    exact I1.fpOk (Nat.le_refl _) (I1.hok.fresh (Nat.le_refl _))
def iRng1 (ta : TA) : TI := fun σ H R => ta σ H fun vs H1 => ∃ j : Int, vs = [.int j] ∧ -(2 ^ 62) ≤ j ∧ j < 2 ^ 62 ∧ R (Itr 0 j.toNat) H1
def iRng2 (ta : TA) : TI := fun σ H R => ta σ H fun vs H1 => ∃ i j : Int, vs = [.int i, .int j] ∧ (-(2 ^ 62) ≤ i ∧ i < 2 ^ 62 ∧ -(2 ^ 62) ≤ j ∧ j < 2 ^ 62) ∧ R (Itr i (j - i).toNat) H1
theorem pi_range1 {a : Expr} {ta : TA} {p pos : Pos} (hg : Gl X "range") (hm : X.mg "range" = none) (ha : PA X [a] ta) (hs : starEach [a] X.env = [(false, eval a X.env)] := by rfl) : PI X tg (.Call (.Name "range" p) [a] [] pos) (iRng1 ta) := by
  intro pins s σ H R I h
  refine Call_ (ld_blt I hg hm boot_range (PyProof.Rows.callWith_type1 (thn (ha pos pins s σ H _ I h) fun us s1 ⟨vs, H1, I1, r1, q1⟩ => ?_) hs rfl))
  obtain ⟨j, e, q1, q2, q⟩ := q1
  subst e
  cases r1 with
  | cons r rr =>
    cases rr
    obtain ⟨t, rfl⟩ := r
    exact call_range_1 (range_it I1 (by omega) (by omega) q1 q2 (by simpa using q))
def tFor (wi : TI) (g : TG) (tb : TS) : TS := fun D σ H => wi σ H fun J H1 => ∃ W : Nat → Nat → St → Hp → Prop, (∃ m, W 0 m σ H1) ∧ ∀ i m σ H, W i m σ H →
  (J.stop i H ∧ D.nx σ H) ∨ (J.go i H ∧ ∃ N : St → Hp → Prop, (∀ σ' H', N σ' H' → ∃ m', m' < m ∧ W (i + 1) m' σ' H') ∧ ∀ x H', J.yld i H x H' → g x σ H' fun σ2 H2 => tb { D with nx := N, ct := N, bk := D.nx } σ2 H2)

def pinsAt (fp : List Addr) (h : Heap) : List (Addr × Obj) := fp.filterMap fun b => (h.get? b).map fun o => (b, o)
theorem mem_pinsAt {fp : List Addr} {h : Heap} {b : Addr} {o : Obj} (hb : b ∈ fp) (e : h.get? b = some o) : (b, o) ∈ pinsAt fp h := List.mem_filterMap.mpr ⟨b, hb, by rw [e]; rfl⟩
theorem of_pinsAt {fp : List Addr} {h : Heap} {p : Addr × Obj} (hp : p ∈ pinsAt fp h) : p.1 ∈ fp ∧ h.get? p.1 = some p.2 := by
  obtain ⟨b, hb, e⟩ := List.mem_filterMap.mp hp
  cases q : h.get? b with
  | none => rw [q] at e; cases e
  | some o =>
    rw [q] at e
    have e' : (b, o) = p := Option.some.inj e
    subst e'
    exact ⟨hb, q⟩
theorem Inv.pinned {pins : List (Addr × Obj)} {σ : St} {H : Hp} {s : Shared} {fp : List Addr} (I : Inv X pins σ H s) (hf : ∀ b ∈ fp, FpOk X pins H b) (ho : ∀ b ∈ fp, ∃ o, s.heap.get? b = some o ∧ ∀ v, o.data ≠ .cell v) : Inv X (pins ++ pinsAt fp s.heap) σ H s :=
  I.pins_of fun p hp => (List.mem_append.mp hp).elim (fun z => I.pin p (List.mem_append_right _ z)) fun z => by
    obtain ⟨hb, e⟩ := of_pinsAt z
    obtain ⟨f0, f1, f2, _⟩ := hf p.1 hb
    obtain ⟨o, e', d⟩ := ho p.1 hb
    rw [e] at e'; cases e'
    exact ⟨e, f0, f1, f2, d⟩
theorem Inv.unpinned {pins pl : List (Addr × Obj)} {σ : St} {H : Hp} {s : Shared} (I : Inv X (pins ++ pl) σ H s) : Inv X pins σ H s := I.pins_of fun p hp => I.pin p (List.mem_append_right _ (List.mem_append_left _ hp))
theorem ps_for {iter : Expr} {body : List Stmt} {wi : TI} {g : TG} {tb : TS} {pos : Pos} (hp : PassesOwn (model X.prog X.w) X.A X.env X.xe) (hc : X.calm = true) (hi : PI X tg iter wi) (hg : PG X tg g) (hb : PSs X body tb)
    (hs : ∀ x, foldedSetIterable iter X.env x = pure x := by intro _; rfl) : PS X (.For tg iter body [] pos) (tFor wi g tb) := by
  intro pins s σ H D I h
  refine wpAny_For (thn (hi pins s σ H _ I h) fun v s1 h1 => thn h1 fun itv s2 h2 => ?_) hs
  obtain ⟨it, fp, tn, J, H2, e, I2, T, st2, f2, W, ⟨m0, w0⟩, turn⟩ := h2
  subst e
  -- what stays true of the iterator's objects through the loop
  have stat : ∀ {H' : Hp}, (∀ b ∈ fp, H' b = none) → ∀ b ∈ fp, FpOk X pins H' b := fun hn b hb => ⟨hn b hb, (f2 b hb).2⟩
  refine codeAny_forLoop_any (fun n s' => ∃ i σ' H', Inv X pins σ' H' s' ∧ tn i s'.heap ∧ (∀ b ∈ fp, H' b = none) ∧ W i n σ' H') ?_ m0 ⟨0, σ, H2, I2, st2, fun b hb => (f2 b hb).1, w0⟩
  rintro n s3 ⟨i, σ3, H3, I3, st3, fr3, w3⟩
  rcases turn i n σ3 H3 w3 with ⟨stop, qn⟩ | ⟨go, N, hN, step⟩
  · refine wpAny_passesOwn hp (thn (T.done X rfl rfl rfl hc i pins s3 σ3 H3 X.xe I3 (stat fr3) st3 stop) fun r s4 ⟨hr, I4⟩ => ?_)
    subst hr
    exact wpAny_execs_nil ⟨σ3, H3, I4, qn⟩
  · refine wpAny_passesOwn hp (thn (T.item X rfl rfl rfl hc i pins s3 σ3 H3 X.xe I3 (stat fr3) st3 go) fun r s4 ⟨u, hr, h4⟩ => ?_)
    subst hr
    refine wpAny_passesOwn hp (thn h4 fun _ s5 ⟨x, H5, I5, r5, y5, st5, fr5⟩ => ?_)
    have I5' := I5.pinned (stat fr5) (T.obj _ _ st5)
    refine wpAny_passesOwn hp (thn (hg _ s5 σ3 H5 x u _ I5' r5 (step x H5 y5)) fun _ s6 ⟨σ6, H6, I6, q6⟩ => ?_)
    refine wpAny_passesOwn hp (thn (hb _ s6 σ6 H6 _ I6 q6) fun f s7 q7 => ?_)
    have again : ∀ {σ7 : St} {H7 : Hp}, Inv X (pins ++ pinsAt fp s5.heap) σ7 H7 s7 → N σ7 H7 → ∃ m, m < n ∧ ∃ i σ' H', Inv X pins σ' H' s7 ∧ tn i s7.heap ∧ (∀ b ∈ fp, H' b = none) ∧ W i m σ' H' := fun {σ7 H7} I7 n7 => by
      obtain ⟨m', hm, w7⟩ := hN σ7 H7 n7
      refine ⟨m', hm, i + 1, σ7, H7, I7.unpinned, T.keep _ _ _ st5 fun b hb o e => (I7.pin (b, o) (List.mem_append_right _ (List.mem_append_right _ (mem_pinsAt hb e)))).1, fun b hb => ?_, w7⟩
      obtain ⟨o, e, d⟩ := T.obj _ _ st5 b hb
      exact (I7.pin (b, o) (List.mem_append_right _ (List.mem_append_right _ (mem_pinsAt hb e)))).2.1
    cases f with
    | next => obtain ⟨σ7, H7, I7, n7⟩ := q7; exact again I7 n7
    | cont => obtain ⟨σ7, H7, I7, n7⟩ := q7; exact again I7 n7
    | brk => obtain ⟨σ7, H7, I7, q7⟩ := q7; exact ⟨σ7, H7, I7.unpinned, q7⟩
    | ret v => obtain ⟨x7, σ7, H7, I7, r7, q7⟩ := q7; exact ⟨x7, σ7, H7, I7.unpinned, r7, q7⟩
end



theorem for_list {K : PySem.W.Frag} {a : Addr} {xs : List V} {g : TG} {tb : TS} {D : Ends} {σ : St} {H : Hp} (Pv : Nat → St → Hp → Prop) (h0 : Pv 0 σ H) (hl : ∀ i σ H, i ≤ xs.length → Pv i σ H → SqL K H a xs)
    (hs : ∀ i x σ H, xs[i]? = some x → Pv i σ H → g x σ H fun σ2 H2 => tb { D with nx := Pv (i + 1), ct := Pv (i + 1), bk := D.nx } σ2 H2) (hd : ∀ σ H, Pv xs.length σ H → D.nx σ H) :
    ∃ W : Nat → Nat → St → Hp → Prop, (∃ m, W 0 m σ H) ∧ ∀ i m σ H, W i m σ H →
      ((Itl K a).stop i H ∧ D.nx σ H) ∨ ((Itl K a).go i H ∧ ∃ N : St → Hp → Prop, (∀ σ' H', N σ' H' → ∃ m', m' < m ∧ W (i + 1) m' σ' H') ∧ ∀ x H', (Itl K a).yld i H x H' → g x σ H' fun σ2 H2 => tb { D with nx := N, ct := N, bk := D.nx } σ2 H2) := by
  refine ⟨fun i m σ H => m = xs.length - i ∧ i ≤ xs.length ∧ Pv i σ H, ⟨xs.length, by simp, Nat.zero_le _, h0⟩, ?_⟩
  rintro i m σ H ⟨rfl, hi, p⟩
  have q := hl i σ H hi p
  by_cases hlt : i < xs.length
  · refine .inr ⟨⟨xs, xs[i], q, by simp [hlt]⟩, Pv (i + 1), fun σ' H' p' => ⟨xs.length - (i + 1), by omega, rfl, hlt, p'⟩, fun x H' y => ?_⟩
    obtain ⟨e, y⟩ := y
    subst e
    exact hs i x σ _ (y xs q) p
  · have e : i = xs.length := by omega
    subst e
    exact .inl ⟨⟨xs, q, Nat.le_refl _⟩, hd σ H p⟩
theorem for_tup {K : PySem.W.Frag} {a : Addr} {xs : List V} {g : TG} {tb : TS} {D : Ends} {σ : St} {H : Hp} (Pv : Nat → St → Hp → Prop) (h0 : Pv 0 σ H) (hl : ∀ i σ H, i ≤ xs.length → Pv i σ H → SqT K H a xs)
    (hs : ∀ i x σ H, xs[i]? = some x → Pv i σ H → g x σ H fun σ2 H2 => tb { D with nx := Pv (i + 1), ct := Pv (i + 1), bk := D.nx } σ2 H2) (hd : ∀ σ H, Pv xs.length σ H → D.nx σ H) :
    ∃ W : Nat → Nat → St → Hp → Prop, (∃ m, W 0 m σ H) ∧ ∀ i m σ H, W i m σ H →
      ((Itt K a).stop i H ∧ D.nx σ H) ∨ ((Itt K a).go i H ∧ ∃ N : St → Hp → Prop, (∀ σ' H', N σ' H' → ∃ m', m' < m ∧ W (i + 1) m' σ' H') ∧ ∀ x H', (Itt K a).yld i H x H' → g x σ H' fun σ2 H2 => tb { D with nx := N, ct := N, bk := D.nx } σ2 H2) := by
  refine ⟨fun i m σ H => m = xs.length - i ∧ i ≤ xs.length ∧ Pv i σ H, ⟨xs.length, by simp, Nat.zero_le _, h0⟩, ?_⟩
  rintro i m σ H ⟨rfl, hi, p⟩
  have q := hl i σ H hi p
  by_cases hlt : i < xs.length
  · refine .inr ⟨⟨xs, xs[i], q, by simp [hlt]⟩, Pv (i + 1), fun σ' H' p' => ⟨xs.length - (i + 1), by omega, rfl, hlt, p'⟩, fun x H' y => ?_⟩
    obtain ⟨e, y⟩ := y
    subst e
    exact hs i x σ _ (y xs q) p
  · have e : i = xs.length := by omega
    subst e
    exact .inl ⟨⟨xs, q, Nat.le_refl _⟩, hd σ H p⟩
theorem for_range {lo : Int} {n : Nat} {g : TG} {tb : TS} {D : Ends} {σ : St} {H : Hp} (Pv : Nat → St → Hp → Prop) (h0 : Pv 0 σ H)
    (hs : ∀ i σ H, i < n → Pv i σ H → g (.int (lo + i)) σ H fun σ2 H2 => tb { D with nx := Pv (i + 1), ct := Pv (i + 1), bk := D.nx } σ2 H2) (hd : ∀ σ H, Pv n σ H → D.nx σ H) :
    ∃ W : Nat → Nat → St → Hp → Prop, (∃ m, W 0 m σ H) ∧ ∀ i m σ H, W i m σ H →
      ((Itr lo n).stop i H ∧ D.nx σ H) ∨ ((Itr lo n).go i H ∧ ∃ N : St → Hp → Prop, (∀ σ' H', N σ' H' → ∃ m', m' < m ∧ W (i + 1) m' σ' H') ∧ ∀ x H', (Itr lo n).yld i H x H' → g x σ H' fun σ2 H2 => tb { D with nx := N, ct := N, bk := D.nx } σ2 H2) := by
  refine ⟨fun i m σ H => m = n - i ∧ i ≤ n ∧ Pv i σ H, ⟨n, by simp, Nat.zero_le _, h0⟩, ?_⟩
  rintro i m σ H ⟨rfl, hi, p⟩
  by_cases hlt : i < n
  · refine .inr ⟨hlt, Pv (i + 1), fun σ' H' p' => ⟨n - (i + 1), by omega, rfl, hlt, p'⟩, fun x H' y => ?_⟩
    obtain ⟨e, y⟩ := y
    subst e y
    exact hs i σ _ hlt p
  · have e : i = n := by omega
    subst e
    exact .inl ⟨Nat.le_refl _, hd σ H p⟩

end L2

namespace L2
open PySem PySem.Spec PyProof.Rows

abbrev R2 := V → V → Hp → VK → Prop

def OpR (X : Cx) (f : Value → Value → Sem Value) (r : R2) : Prop :=
  ∀ (pins : List (Addr × Obj)) (s : Shared) (σ : St) (H : Hp) (x y : V) (v u : Value) (Q : VK), Inv X pins σ H s → RelV x v → RelV y u → r x y H Q →
    wpAny (model X.prog X.w) X.A (f v u) (EP X pins σ Q) X.xe s

def UnR (X : Cx) (f : Value → Sem Value) (r : V → Hp → VK → Prop) : Prop :=
  ∀ (pins : List (Addr × Obj)) (s : Shared) (σ : St) (H : Hp) (x : V) (v : Value) (Q : VK), Inv X pins σ H s → RelV x v → r x H Q →
    wpAny (model X.prog X.w) X.A (f v) (EP X pins σ Q) X.xe s

def CallR (X : Cx) (f : Value) (r : List V → Hp → VK → Prop) : Prop :=
  ∀ (pins : List (Addr × Obj)) (s : Shared) (σ : St) (H : Hp) (xs : List V) (us : List Value) (Q : VK), Inv X pins σ H s → Vals xs us → r xs H Q →
    wpAny (model X.prog X.w) X.A (call f us) (EP X pins σ Q) X.xe s

def TruR (X : Cx) (r : V → Hp → (Bool → Hp → Prop) → Prop) : Prop :=
  ∀ (pins : List (Addr × Obj)) (s : Shared) (σ : St) (H : Hp) (x : V) (v : Value) (Q : Bool → Hp → Prop), Inv X pins σ H s → RelV x v → r x H Q →
    wpAny (model X.prog X.w) X.A (truthy v) (TP X pins σ Q) X.xe s

def tOp (r : R2) (ta tb : TE) : TE := fun σ H Q => ta σ H fun x H1 => tb σ H1 fun y H2 => r x y H2 Q
def tUn (r : V → Hp → VK → Prop) (ta : TE) : TE := fun σ H Q => ta σ H fun x H1 => r x H1 Q

def rI (C : Int → Int → Prop) (g : Int → Int → V) : R2 := fun x y H Q => ∃ i j, x = .int i ∧ y = .int j ∧ C i j ∧ Q (g i j) H
def rI0 (g : Int → Int → V) : R2 := fun x y H Q => ∃ i j, x = .int i ∧ y = .int j ∧ Q (g i j) H
def rU (g : Int → V) : V → Hp → VK → Prop := fun x H Q => ∃ i, x = .int i ∧ Q (g i) H

section
variable {X : Cx} {a b c : Expr} {ta tb tc : TE} {pos : Pos}

theorem binT (ha : PE X a ta) (hb : PE X b tb) {pins : List (Addr × Obj)} {s : Shared} {σ : St} {H : Hp} {R : V → V → Hp → Prop} (I : Inv X pins σ H s)
    (h : ta σ H fun x H1 => tb σ H1 fun y H2 => R x y H2) {Q : Value → Shared → Prop} {f : Value → Value → Sem Value}
    (hf : ∀ v u s2 x y H2, Inv X pins σ H2 s2 → RelV x v → RelV y u → R x y H2 → wpAny (model X.prog X.w) X.A (f v u) Q X.xe s2) :
    wpAny (model X.prog X.w) X.A (eval a X.env) (fun v s₁ => wpAny (model X.prog X.w) X.A (eval b X.env) (fun u s₂ => wpAny (model X.prog X.w) X.A (f v u) Q X.xe s₂) X.xe s₁) X.xe s := by
  refine thn (ha pins s σ H _ I h) fun v s1 ⟨x, H1, I1, r1, q1⟩ => ?_
  refine thn (hb pins s1 σ H1 _ I1 q1) fun u s2 ⟨y, H2, I2, r2, q2⟩ => ?_
  exact hf v u s2 x y H2 I2 r1 r2 q2

theorem pe_op {op : Operator} {r : R2} (ho : OpR X (binaryOp op) r) (ha : PE X a ta) (hb : PE X b tb) : PE X (.BinOp a op b pos) (tOp r ta tb) := by
  intro pins s σ H Q I h
  exact wpAny_BinOp (binT ha hb I h fun v u s2 x y H2 I2 rx ry q => ho pins s2 σ H2 x y v u Q I2 rx ry q)
theorem pe_un {op : UnaryOp} {r : V → Hp → VK → Prop} (ho : UnR X (unaryOp op) r) (ha : PE X a ta) : PE X (.UnaryOp op a pos) (tUn r ta) := by
  intro pins s σ H Q I h
  exact UnaryOp_ (thn (ha pins s σ H _ I h) fun v s1 ⟨x, H1, I1, r1, q1⟩ => ho pins s1 σ H1 x v Q I1 r1 q1)

theorem opI {f : Value → Value → Sem Value} {C : Int → Int → Prop} {g : Int → Int → Int}
    (rule : ∀ (i j : Int) (t u : Tok) (s : Shared) (Q : Value → Shared → Prop) (E : Value → Shared → Prop), C i j → Q (.int (g i j) s.toks) { s with toks := s.toks + 1 } → wpAny (model X.prog X.w) X.A (f (.int i t) (.int j u)) Q E s) :
    OpR X f (rI C fun i j => .int (g i j)) := by
  intro pins s σ H x y v u Q I rx ry h
  obtain ⟨i, j, rfl, rfl, hc, q⟩ := h
  obtain ⟨t, rfl⟩ := rx
  obtain ⟨t', rfl⟩ := ry
  exact rule i j t t' s _ _ hc ⟨.int (g i j), H, I.tok _, ⟨_, rfl⟩, q⟩
theorem opI0 {f : Value → Value → Sem Value} {g : Int → Int → Int}
    (rule : ∀ (i j : Int) (t u : Tok) (s : Shared) (Q : Value → Shared → Prop) (E : Value → Shared → Prop), Q (.int (g i j) s.toks) { s with toks := s.toks + 1 } → wpAny (model X.prog X.w) X.A (f (.int i t) (.int j u)) Q E s) :
    OpR X f (rI0 fun i j => .int (g i j)) := by
  intro pins s σ H x y v u Q I rx ry h
  obtain ⟨i, j, rfl, rfl, q⟩ := h
  obtain ⟨t, rfl⟩ := rx
  obtain ⟨t', rfl⟩ := ry
  exact rule i j t t' s _ _ ⟨.int (g i j), H, I.tok _, ⟨_, rfl⟩, q⟩
theorem opB0 {f : Value → Value → Sem Value} {g : Int → Int → Bool}
    (rule : ∀ (i j : Int) (t u : Tok) (s : Shared) (Q : Value → Shared → Prop) (E : Value → Shared → Prop), Q (.bool (g i j)) s → wpAny (model X.prog X.w) X.A (f (.int i t) (.int j u)) Q E s) :
    OpR X f (rI0 fun i j => .bl (g i j)) := by
  intro pins s σ H x y v u Q I rx ry h
  obtain ⟨i, j, rfl, rfl, q⟩ := h
  obtain ⟨t, rfl⟩ := rx
  obtain ⟨t', rfl⟩ := ry
  exact rule i j t t' s _ _ ⟨.bl (g i j), H, I, rfl, q⟩

def CDiv (i j : Int) : Prop := 0 < j ∧ j < 1073741824
def CDivN (i j : Int) : Prop := j ≠ 0 ∧ j.natAbs < 1073741824
def CPow (i j : Int) : Prop := 0 ≤ j ∧ j ≤ 1000000 ∧ i.natAbs < 2 ^ 64
def CMul (i j : Int) : Prop := (-(2 ^ 64) < i ∧ i < 2 ^ 64) ∨ (-(2 ^ 64) < j ∧ j < 2 ^ 64)
theorem CMul.ok {i j : Int} (h : CMul i j) : IntMulOk i j := by
  rcases h with ⟨h1, h2⟩ | ⟨h1, h2⟩
  · exact .of_left (intBits_le_64 h1 h2)
  · exact .of_right (intBits_le_64 h1 h2)
theorem op_add : OpR X (binaryOp .Add) (rI0 fun i j => .int (i + j)) := opI0 fun _ _ _ _ _ _ _ q => add_int q
theorem op_mul : OpR X (binaryOp .Mult) (rI CMul fun i j => .int (i * j)) := opI fun _ _ _ _ _ _ _ hc q => mul_int q hc.ok

theorem op_fdiv : OpR X (binaryOp .FloorDiv) (rI CDiv fun i j => .int (i / j)) := opI fun i j _ _ _ _ _ hc q => by
  have h1 : (0 : Int) < j := hc.1
  have h2 : j < 1073741824 := hc.2
  exact floordiv_int (by omega) (by rw [Int.fdiv_eq_ediv_of_nonneg i (by omega)]; exact q) (.inl (PyProof.noPylong_small (by omega)))
theorem op_mod : OpR X (binaryOp .Mod) (rI (fun _ j => 0 < j) fun i j => .int (i % j)) := opI fun i j _ _ _ _ _ hc q => by
  have h1 : (0 : Int) < j := hc
  exact mod_int' (by omega) (by rw [Int.fmod_eq_emod_of_nonneg i (by omega)]; exact q)
theorem unI {f : Value → Sem Value} {g : Int → Int}
    (rule : ∀ (i : Int) (t : Tok) (s : Shared) (Q : Value → Shared → Prop) (E : Value → Shared → Prop), Q (.int (g i) s.toks) { s with toks := s.toks + 1 } → wpAny (model X.prog X.w) X.A (f (.int i t)) Q E s) :
    UnR X f (rU fun i => .int (g i)) := by
  intro pins s σ H x v Q I rx h
  obtain ⟨i, rfl, q⟩ := h
  obtain ⟨t, rfl⟩ := rx
  exact rule i t s _ _ ⟨.int (g i), H, I.tok _, ⟨_, rfl⟩, q⟩
theorem un_neg : UnR X (unaryOp .USub) (rU fun i => .int (-i)) := unI fun _ _ _ _ _ q => neg_int q
end



def scal : V → V → Bool
  | .non, .non => true | .non, .int _ => true | .int _, .non => true | .non, .bl _ => true | .bl _, .non => true | .non, .str _ => true | .str _, .non => true
  | .int _, .int _ => true | .bl _, .bl _ => true | .str _, .str _ => true | .byt _, .byt _ => true
  | .int _, .str _ => true | .str _, .int _ => true | .bl _, .str _ => true | .str _, .bl _ => true
  | _, _ => false
def rEq : R2 := fun x y H Q => scal x y = true ∧ Q (.bl (decide (x = y))) H
def rNe : R2 := fun x y H Q => scal x y = true ∧ Q (.bl (!decide (x = y))) H

theorem dec_int {i j : Int} : decide (V.int i = V.int j) = (i == j) := by
  rw [Bool.eq_iff_iff]
  simp
theorem dec_bl {i j : Bool} : decide (V.bl i = V.bl j) = (i == j) := by
  rw [Bool.eq_iff_iff]
  simp
theorem dec_str {i j : Str} : decide (V.str i = V.str j) = (i == j) := by
  rw [Bool.eq_iff_iff]
  simp
theorem dec_byt {i j : Array UInt8} : decide (V.byt i = V.byt j) = (i.toList == j.toList) := by
  rw [Bool.eq_iff_iff]
  cases i
  cases j
  simp

section
variable {X : Cx} {a b c : Expr} {ta tb tc : TE} {pos : Pos}
theorem fin_bl {pins : List (Addr × Obj)} {σ : St} {H : Hp} {s : Shared} {Q : VK} {k k' : Bool} (I : Inv X pins σ H s) (q : Q (.bl k) H) (e : k = k') : EP X pins σ Q (.bool k') s := by
  subst e
  exact ⟨.bl k, H, I, rfl, q⟩
theorem op_eq : OpR X (compareOp .Eq) rEq := by
  intro pins s σ H x y v u Q I rx ry h
  obtain ⟨hs, q⟩ := h
  cases x with
  | non =>
    cases rx
    cases y with
    | non => cases ry; exact PySem.EqNone.eq_none_none (fin_bl I q (by simp))
    | bl j => cases ry; exact PySem.EqNone.eq_none_bool (fin_bl I q (by simp))
    | int j => obtain ⟨t', rfl⟩ := ry; exact PySem.EqNone.eq_none_int (fin_bl I q (by simp))
    | str j => obtain ⟨t', rfl⟩ := ry; exact PySem.EqNone.eq_none_str (fin_bl I q (by simp))
    | _ => exact absurd (show false = true from hs) Bool.false_ne_true
  | bl i =>
    cases rx
    cases y with
    | non => cases ry; exact PySem.EqNone.eq_bool_none (fin_bl I q (by simp))
    | bl j => cases ry; exact eq_bool (fin_bl I q dec_bl)
    | str j => obtain ⟨t', rfl⟩ := ry; exact PySem.EqMixed.eq_bool_str (fin_bl I q (by simp))
    | _ => exact absurd (show false = true from hs) Bool.false_ne_true
  | int i =>
    obtain ⟨t, rfl⟩ := rx
    cases y with
    | non => cases ry; exact PySem.EqNone.eq_int_none (fin_bl I q (by simp))
    | int j => obtain ⟨t', rfl⟩ := ry; exact eq_int (fin_bl I q dec_int)
    | str j => obtain ⟨t', rfl⟩ := ry; exact PySem.EqMixed.eq_int_str (fin_bl I q (by simp))
    | _ => exact absurd (show false = true from hs) Bool.false_ne_true
  | str i =>
    obtain ⟨t, rfl⟩ := rx
    cases y with
    | non => cases ry; exact PySem.EqNone.eq_str_none (fin_bl I q (by simp))
    | bl j => cases ry; exact PySem.EqMixed.eq_str_bool (fin_bl I q (by simp))
    | int j => obtain ⟨t', rfl⟩ := ry; exact PySem.EqMixed.eq_str_int (fin_bl I q (by simp))
    | str j => obtain ⟨t', rfl⟩ := ry; exact eq_str (fin_bl I q dec_str)
    | _ => exact absurd (show false = true from hs) Bool.false_ne_true
  | byt i =>
    obtain ⟨t, rfl⟩ := rx
    cases y with
    | byt j => obtain ⟨t', rfl⟩ := ry; exact PySem.W.eq_bytes (fin_bl I q dec_byt)
    | _ => exact absurd (show false = true from hs) Bool.false_ne_true
  | _ => cases y <;> exact absurd (show false = true from hs) Bool.false_ne_true
theorem op_ne : OpR X (compareOp .NotEq) rNe := by
  intro pins s σ H x y v u Q I rx ry h
  obtain ⟨hs, q⟩ := h
  cases x with
  | non =>
    cases rx
    cases y with
    | non => cases ry; exact PySem.EqNone.ne_none_none (fin_bl I q (by simp))
    | bl j => cases ry; exact PySem.EqNone.ne_none_bool (fin_bl I q (by simp))
    | int j => obtain ⟨t', rfl⟩ := ry; exact PySem.EqNone.ne_none_int (fin_bl I q (by simp))
    | str j => obtain ⟨t', rfl⟩ := ry; exact PySem.EqNone.ne_none_str (fin_bl I q (by simp))
    | _ => exact absurd (show false = true from hs) Bool.false_ne_true
  | bl i =>
    cases rx
    cases y with
    | non => cases ry; exact PySem.EqNone.ne_bool_none (fin_bl I q (by simp))
    | bl j => cases ry; exact ne_bool (fin_bl I q (congrArg not dec_bl))
    | str j => obtain ⟨t', rfl⟩ := ry; exact PySem.EqMixed.ne_bool_str (fin_bl I q (by simp))
    | _ => exact absurd (show false = true from hs) Bool.false_ne_true
  | int i =>
    obtain ⟨t, rfl⟩ := rx
    cases y with
    | non => cases ry; exact PySem.EqNone.ne_int_none (fin_bl I q (by simp))
    | int j => obtain ⟨t', rfl⟩ := ry; exact ne_int (fin_bl I q (congrArg not dec_int))
    | str j => obtain ⟨t', rfl⟩ := ry; exact PySem.EqMixed.ne_int_str (fin_bl I q (by simp))
    | _ => exact absurd (show false = true from hs) Bool.false_ne_true
  | str i =>
    obtain ⟨t, rfl⟩ := rx
    cases y with
    | non => cases ry; exact PySem.EqNone.ne_str_none (fin_bl I q (by simp))
    | bl j => cases ry; exact PySem.EqMixed.ne_str_bool (fin_bl I q (by simp))
    | int j => obtain ⟨t', rfl⟩ := ry; exact PySem.EqMixed.ne_str_int (fin_bl I q (by simp))
    | str j => obtain ⟨t', rfl⟩ := ry; exact ne_str (fin_bl I q (congrArg not dec_str))
    | _ => exact absurd (show false = true from hs) Bool.false_ne_true
  | byt i =>
    obtain ⟨t, rfl⟩ := rx
    cases y with
    | byt j => obtain ⟨t', rfl⟩ := ry; exact PySem.W.ne_bytes (fin_bl I q (congrArg not dec_byt))
    | _ => exact absurd (show false = true from hs) Bool.false_ne_true
  | _ => cases y <;> exact absurd (show false = true from hs) Bool.false_ne_true

theorem op_lt : OpR X (compareOp .Lt) (rI0 fun i j => .bl (decide (i < j))) := opB0 fun _ _ _ _ _ _ _ q => lt_int q
theorem op_gt : OpR X (compareOp .Gt) (rI0 fun i j => .bl (decide (j < i))) := opB0 fun _ _ _ _ _ _ _ q => gt_int q
def isObj : HO → Bool
  | .lst _ => true
  | .ins _ _ _ => true
  | _ => false
theorem nomark (b : Expr) {op : CmpOp} (h : op ≠ .In := by decide) (h2 : op ≠ .NotIn := by decide) : behindInMarks op b = false := by
  have e1 : (op == CmpOp.In) = false := by cases op <;> first | rfl | exact absurd rfl h
  have e2 : (op == CmpOp.NotIn) = false := by cases op <;> first | rfl | exact absurd rfl h2
  cases b <;> simp [behindInMarks, e1, e2]

theorem pe_cmpR {op : CmpOp} {r : R2} (ho : OpR X (compareOp op) r) (ha : PE X a ta) (hb : PE X b tb) (hm : behindInMarks op b = false) : PE X (.Compare a [op] [b] pos) (tOp r ta tb) := by
  intro pins s σ H Q I h
  exact wpAny_Compare1 (binT ha hb I h fun v u s2 x y H2 I2 rx ry q => ho pins s2 σ H2 x y v u Q I2 rx ry q) hm

def tTest (t : TE) : TT := fun σ H Q => t σ H fun x H' => ∃ k, x = .bl k ∧ Q k H'
theorem pt_cmpR {op : CmpOp} {r : R2} (ho : OpR X (compareOp op) r) (ha : PE X a ta) (hb : PE X b tb) (hm : behindInMarks op b = false) : PT X (.Compare a [op] [b] pos) (tTest (tOp r ta tb)) := by
  intro pins s σ H Q I h
  refine wpAny_isTrue_Compare1 (thn (ha pins s σ H _ I h) fun v s1 ⟨x, H1, I1, r1, q1⟩ => thn (hb pins s1 σ H1 _ I1 q1) fun u s2 ⟨y, H2, I2, r2, q2⟩ =>
    thn (ho pins s2 σ H2 x y v u _ I2 r1 r2 q2) fun c s3 ⟨z, H3, I3, r3, k, e, q3⟩ => ?_) hm
  subst e
  cases r3
  exact wpAny_truthy_bool ⟨H3, I3, q3⟩

def tChain (r r' : R2) (ta tb tc : TE) : TE := fun σ H Q => ta σ H fun x H1 => tb σ H1 fun y H2 => r x y H2 fun z H3 => ∃ k, z = .bl k ∧
  (if k = true then tc σ H3 fun w' H4 => r' y w' H4 Q else Q (.bl false) H3)
def TruV (K : PySem.W.Frag) (x : V) (H : Hp) (k : Bool) : Prop :=
  match x with
  | .non => k = false
  | .bl b => k = b
  | .int i => k = (i != 0)
  | .str y => y.length ≤ sizeLine ∧ k = ((y.length : Int) != 0)
  | .byt y => y.size ≤ sizeLine ∧ k = ((y.size : Int) != 0)
  | .ref p => (∃ xs, SqL K H p xs ∧ k = !xs.isEmpty) ∨ (∃ xs, SqT K H p xs ∧ k = !xs.isEmpty) ∨ ∃ kvs, H p = some (.dK kvs) ∧ k = !kvs.isEmpty
  | _ => False
theorem line63 : (sizeLine : Nat) < 2 ^ 63 := by rw [sizeLine_eq]; decide
def PlainIxT (b : Expr) : Prop := ∀ o i, subscripted b false o i = operate [o, i] (getItem o i)

theorem vals1 {x : V} {us : List Value} (r : Vals [x] us) : ∃ u, us = [u] ∧ RelV x u := by
  cases r with
  | cons r1 r2 => cases r2; exact ⟨_, rfl, r1⟩
theorem vals2 {x y : V} {us : List Value} (r : Vals [x, y] us) : ∃ u w', us = [u, w'] ∧ RelV x u ∧ RelV y w' := by
  cases r with
  | cons r1 r2 =>
    cases r2 with
    | cons r3 r4 => cases r4; exact ⟨_, _, rfl, r1, r3⟩
def LenV (K : PySem.W.Frag) (x : V) (H : Hp) (n : Nat) : Prop :=
  match x with
  | .str y => y.length ≤ sizeLine ∧ n = y.length
  | .byt y => y.size ≤ sizeLine ∧ n = y.size
  | .ref p => (∃ xs, SqL K H p xs ∧ n = xs.length) ∨ ∃ xs, SqT K H p xs ∧ n = xs.length
  | _ => False
end
end L2

namespace L2
open PySem PySem.Spec PyProof.Rows


structure ObjM (h : Heap) (x dx C : Addr) (mA : Str → Option Value) : Prop where
  obj : h.get? x = some (PySem.W.instObj C dx)
  ns : h.Ns1 dx mA
  ne : dx ≠ x

section
variable {prog : Program} {w : World} {A : Around} {E : Value → Shared → Prop} {s : Shared} {K : PySem.W.Frag} {x dx C f : Addr} {mA : Str → Option Value} {name : Str} {v : Value}

end


def putF (f : Str) (v : V) : List (Str × V) → List (Str × V)
  | [] => [(f, v)]
  | (g, x) :: r => if g = f then (g, v) :: r else (g, x) :: putF f v r
theorem RelO.some_of {v : V} {o : Option Value} (r : RelO (some v) o) : ∃ u, o = some u ∧ RelV v u := by
  cases o with
  | none => exact (show False from r).elim
  | some u => exact ⟨u, rfl, r⟩
section
variable {P : Program} {w : World} {H H' : Hp} {h h' : Heap} {a C dx : Addr} {fs fs' : List (Str × V)}
end


structure Cls (K : PySem.W.Frag) (C : Addr) : Prop where
  pg : PySem.W.plainGet K C Str.empty = true
  hd : PySem.W.hasDictIn K C = true
  po : PySem.W.plainOver K C = true
  sa : PySem.W.findIn K (.ref C) "__setattr__" = some (some (.builtin "object.__setattr__"))
def NoAttr (K : PySem.W.Frag) (C : Addr) (f : Str) : Prop := PySem.W.findIn K (.ref C) f = some none
structure Con (K : PySem.W.Frag) (C : Addr) (f : Str) (v : V) (u : Value) : Prop where
  at_ : PySem.W.findIn K (.ref C) f = some (some u)
  rel : RelV v u
  get : PySem.W.specialIn K u "__get__" = some none
  cp : PySem.W.copiedNames.contains f = false

structure Meth (K : PySem.W.Frag) (C : Addr) (m : Str) (f : Addr) : Prop where
  at_ : PySem.W.findIn K (.ref C) m = some (some (.ref f))
  fn : PySem.W.isFn K (.ref f) = true
  kp : PySem.W.keepIn K (.ref f) = true

section
variable {X : Cx} {pins : List (Addr × Obj)} {σ : St} {H : Hp} {s : Shared} {a C dx : Addr} {fs : List (Str × V)} {f : Str} {v : V} {A : Around} {E : Value → Shared → Prop}

end



def tFld (K : PySem.W.Frag) (ta : TE) (f : Str) : TE := fun σ H Q => ta σ H fun x H1 => ∃ a C dx fs v, x = .ref a ∧ H1 a = some (.ins C dx fs) ∧ Cls K C ∧ NoAttr K C f ∧ fs.lookup f = some v ∧ Q v H1

def tCon (K : PySem.W.Frag) (ta : TE) (f : Str) : TE := fun σ H Q => ta σ H fun x H1 => ∃ a C dx fs v u, x = .ref a ∧ H1 a = some (.ins C dx fs) ∧ Cls K C ∧ Con K C f v u ∧ fs.lookup f = none ∧ Q v H1

def sFld (K : PySem.W.Frag) (ta tv : TE) (f : Str) : TS := fun D σ H => tv σ H fun y H1 => ta σ H1 fun x H2 => ∃ a C dx fs, x = .ref a ∧ H2 a = some (.ins C dx fs) ∧ Cls K C ∧ NoAttr K C f ∧ fs.length < 1000 ∧
  D.nx σ (upd H2 a (.ins C dx (putF f y fs)))

def InOp (X : Cx) (op : Operator) (rd : V → V → Hp → VK → Prop) : Prop :=
  ∀ (pins : List (Addr × Obj)) (s : Shared) (σ : St) (H : Hp) (x y : V) (u v : Value) (Q : VK), Inv X pins σ H s → RelV x u → RelV y v → rd x y H Q → wpAny (model X.prog X.w) X.A (inplaceOp op u v) (EP X pins σ Q) X.xe s

def sFldAug (K : PySem.W.Frag) (ta tv : TE) (rd : V → V → Hp → VK → Prop) (f : Str) : TS := fun D σ H => ta σ H fun x H1 => ∃ a C dx fs v, x = .ref a ∧ H1 a = some (.ins C dx fs) ∧ Cls K C ∧ NoAttr K C f ∧ fs.lookup f = some v ∧
  tv σ H1 fun y H2 => rd v y H2 fun z H3 => ∃ dx' fs', H3 a = some (.ins C dx' fs') ∧ fs'.length < 1000 ∧ D.nx σ (upd H3 a (.ins C dx' (putF f z fs')))

section
variable {X : Cx} {o e value : Expr} {f : Str} {pos pos' tpos : Pos} {ta tv : TE}
def rAdd : V → V → Hp → VK → Prop := fun x y H Q => ∃ i j, x = .int i ∧ y = .int j ∧ Q (.int (i + j)) H
def rSub : V → V → Hp → VK → Prop := fun x y H Q => ∃ i j, x = .int i ∧ y = .int j ∧ Q (.int (i - j)) H
end


section
variable {X : Cx} {pins : List (Addr × Obj)} {σ : St} {H : Hp} {s : Shared} {A : Around} {E : Value → Shared → Prop} {Q : Value → Shared → Prop} {c : Value} {b : Bool}

inductive TyOf (K : PySem.W.Frag) (H : Hp) : V → Value → Prop where
  | non : TyOf K H .non (.type "NoneType")
  | bl (x : Bool) : TyOf K H (.bl x) (.type "bool")
  | int (i : Int) : TyOf K H (.int i) (.type "int")
  | str (x : Str) : TyOf K H (.str x) (.type "str")
  | flt (x : UInt64) : TyOf K H (.flt x) (.type "float")
  | lst {a : Addr} {xs : List V} (e : H a = some (.lst xs)) : TyOf K H (.ref a) (.type "list")
  | frz {a : Addr} {o : Obj} {xs : List V} (e : H a = some (.frz o (.lst xs))) : TyOf K H (.ref a) (.type "list")
  | tup {a : Addr} {xs : List V} (e : H a = some (.tup xs)) : TyOf K H (.ref a) (.type "tuple")
  | dK {a : Addr} {kvs : List (Key × V)} (e : H a = some (.dK kvs)) : TyOf K H (.ref a) (.type "dict")
  | dT {a : Addr} {kvs : List (List Key × V)} (e : H a = some (.dT kvs)) : TyOf K H (.ref a) (.type "dict")
  | ins {a C dx : Addr} {fs : List (Str × V)} (e : H a = some (.ins C dx fs)) (cl : Cls K C) (ha : PySem.W.findIn K (.ref C) "__class__" = some (some (.builtin "object.__class__")))
      (hn : PySem.W.specialIn K (.builtin "object.__class__") "__get__" = some (some (.builtin "getset_descriptor.__get__"))) (htk : PySem.W.takesIn K (.builtin "object.__class__") = some true)
      (hm : PySem.W.mroIn K C (.type "object") = some true) : TyOf K H (.ref a) (.ref C)

end
end L2

namespace L2
open PySem PySem.Spec PyProof.Rows


structure Room (k : Nat) (A : Around) : Prop where
  hd : A.handled = none
  dp : A.depth + 3 * k + 5 < recursionLimit
  un : A.units + 16 * k + 200 < cLine
theorem Room.mono {j k : Nat} {A : Around} (r : Room k A) (h : j ≤ k) : Room j A := ⟨r.hd, by have := r.dp; omega, by have := r.un; omega⟩
theorem Room.deeper {k : Nat} {A : Around} (r : Room (k + 1) A) (env : Env) : Room k (A.deeper env) :=
  ⟨r.hd, by have := r.dp; show A.depth + 1 + 3 * k + 5 < _; omega, by have := r.un; show A.units + 3 + 16 * k + 200 < _; omega⟩
theorem Room.depth {k : Nat} {A : Around} (r : Room k A) : A.depth < recursionLimit := by have := r.dp; omega
theorem Room.units {k : Nat} {A : Around} (r : Room k A) : A.units + 64 < cLine := by have := r.un; omega
def tNil : TA := fun _ H Q => Q [] H
def tCons (ta : TE) (tr : TA) : TA := fun σ H Q => ta σ H fun x H1 => tr σ H1 fun xs H2 => Q (x :: xs) H2
section
variable {X : Cx} {e : Expr} {es : List Expr} {te : TE} {t : TA} {pos : Pos}
theorem pa_nil : PA X [] tNil := fun _ _ _ _ H Q I h => Calls.spliced_nil ⟨[], H, I, .nil, h⟩
theorem pa_cons (ha : PE X e te) (hr : PA X es t) (hs : starEach (e :: es) X.env = (false, eval e X.env) :: starEach es X.env := by rfl) : PA X (e :: es) (tCons te t) := by
  intro pos pins s σ H Q I h
  rw [hs]
  show wpAny _ _ (spliced ((false, eval e X.env) :: backTo pos (starEach es X.env))) _ _ s
  refine Calls.spliced_cons (thn (ha pins s σ H _ I h) fun u s1 ⟨x, H1, I1, r1, q1⟩ => ?_)
  exact thn (hr pos pins s1 σ H1 _ I1 q1) fun us s2 ⟨xs, H2, I2, r2, q2⟩ => ⟨x :: xs, H2, I2, .cons r1 r2, q2⟩


def tTup (t : TA) : TE := fun σ H Q => t σ H fun xs H1 => xs.length ≤ sizeLine ∧ ∀ p, H1 p = none → Q (.ref p) (upd H1 p (.tup xs))
def tLst (t : TA) : TE := fun σ H Q => t σ H fun xs H1 => xs.length ≤ sizeLine ∧ ∀ p, H1 p = none → Q (.ref p) (upd H1 p (.lst xs))
theorem pe_tup {x1} (h : PA X es t) : PE X (.Tuple es x1 pos) (tTup t) := by
  intro pins s σ H Q I hq
  refine wpAny_Tuple_spliced (thn (h pos pins s σ H _ I hq) fun us s1 ⟨xs, H1, I1, r, z, q⟩ => ⟨by rw [← r.length]; exact z, ?_⟩)
  have hf : H1 s1.heap.objs.size = none := I1.hok.fresh (Nat.le_refl _)
  refine ⟨.ref s1.heap.objs.size, upd H1 s1.heap.objs.size (.tup xs), I1.laid (t' := s1.toks) (fun b u e => Heap.get?_push_of_some _ e) (Nat.le_refl _) ?_, rfl, q _ hf⟩
  exact ⟨z, us, r, ⟨_, Heap.get?_push_size _ rfl, rfl, _, rfl⟩⟩
theorem pe_lst (h : PA X es t) : PE X (.List es pos) (tLst t) := by
  intro pins s σ H Q I hq
  refine wpAny_List_spliced (thn (h pos pins s σ H _ I hq) fun us s1 ⟨xs, H1, I1, r, z, q⟩ => ⟨by rw [← r.length]; exact z, ?_⟩)
  have hf : H1 s1.heap.objs.size = none := I1.hok.fresh (Nat.le_refl _)
  refine ⟨.ref s1.heap.objs.size, upd H1 s1.heap.objs.size (.lst xs), I1.laid (t' := s1.toks) (fun b u e => Heap.get?_push_of_some _ e) (Nat.le_refl _) ?_, rfl, q _ hf⟩
  exact ⟨z, us, 0, r, Heap.get?_push_size _ rfl⟩
end



abbrev Sp := List V → Hp → VK → XK → Prop

abbrev CXT := List Env → Hp → Shared → XK → Value → Shared → Prop


structure Env0 (P : Program) (w : World) (K : PySem.W.Frag) (mg : Str → Option Value) (base : Heap) (A : Around) (outer : List Env) (s : Shared) (H : Hp) : Prop where
  frames : A.frames = some outer
  mod : Mod K mg base
  bs : ∀ b o, base.get? b = some o → s.heap.get? b = some o ∧ H b = none
  bsz : base.objs.size ≤ s.heap.objs.size
  funs : s.heap.FunFrames base outer
  frf : ∀ b ∈ frs outer, H b = none
  hok : HOk P w H s.heap
  bare : AllBare s.gens

def CE (outer : List Env) (P : Program) (w : World) (H : Hp) (s : Shared) (Q : VK) (u : Value) (s' : Shared) : Prop :=
  ∃ v H', s'.os = s.os ∧ AllBare s'.gens ∧ Un (frs outer) [] H H' s.heap s'.heap ∧ HOk P w H' s'.heap ∧ RelV v u ∧ Q v H'
def CR (CX : CXT) (outer : List Env) (P : Program) (w : World) (H : Hp) (s : Shared) (Q : VK) (E : XK) (r : Result) (s' : Shared) : Prop :=
  match r with
  | .ok (.ret u) => CE outer P w H s Q u s'
  | .ok _ => False
  | .error e => CX outer H s E e s'
structure FnOk (P : Program) (w : World) (K : PySem.W.Frag) (mg : Str → Option Value) (base : Heap) (CX : CXT) (k : Nat) (f : Addr) (fd : FuncData) (ps : List Str) (sp : Sp) : Prop where
  len : ∀ vs H Q E, sp vs H Q E → vs.length = ps.length
  run : ∀ (A : Around) (outer : List Env) (s : Shared) (H : Hp) (args : Args) (us : List Value) (vs : List V) (Q : VK) (E : XK), Room k A → Env0 P w K mg base A outer s H → BindsTo s fd args (ps.zip us) → Vals vs us → sp vs H Q E →
    codeAny (model P w) A (.call (.ref f) args) (CR CX outer P w H s Q E) s
section
variable {X : Cx} {pins : List (Addr × Obj)} {σ : St} {H : Hp} {s s' : Shared}

theorem Inv.env0 (I : Inv X pins σ H s) : Env0 X.prog X.w X.K X.mg X.base X.A X.stack s H :=
  ⟨I.ok.frames, I.ok.mod, I.bs, Nat.le_trans I.ok.bsz I.sz, I.stack, I.stkFree, I.hok, I.bare⟩

theorem Inv.after {Q : VK} {u : Value} (I : Inv X pins σ H s) (h : CE X.stack X.prog X.w H s Q u s') : EP X pins σ Q u s' := by
  obtain ⟨v, H', os, bare, un, hok, r, q⟩ := h
  obtain ⟨hh, g, d, t, os'⟩ := s'
  obtain rfl : os' = s.os := os
  exact ⟨v, H', I.call (h' := hh) (g' := g) (d' := d) (t' := t) (ch := []) un hok bare (fun b z => absurd z (by simp)), r, q⟩
end



def tCall (sp : Sp) (dvs : List V) (E : XK) (t : TA) : TE := fun σ H Q => t σ H fun vs H1 => sp (vs ++ dvs) H1 Q E

def tMeth (C : Addr) (m : Str) (sp : Sp) (dvs : List V) (E : XK) (ta : TE) (t : TA) : TE := fun σ H Q => ta σ H fun x H1 => ∃ a dx fs, x = .ref a ∧ H1 a = some (.ins C dx fs) ∧ fs.lookup m = none ∧
  t σ H1 fun vs H2 => sp (x :: (vs ++ dvs)) H2 Q E

def tMake (C : Addr) (sp : Sp) (dvs : List V) (E : XK) (t : TA) : TE := fun σ H Q => t σ H fun vs H1 => ∀ x dx, H1 x = none → H1 dx = none → dx ≠ x →
  sp (.ref x :: (vs ++ dvs)) (upd (upd H1 dx (.own x)) x (.ins C dx [])) (fun v H2 => v = .non ∧ Q (.ref x) H2) E


def Binds (K : PySem.W.Frag) (fd : FuncData) (ps : List Str) (ds : List Value) : Prop :=
  ∀ (s : Shared) (us : List Value), K.In s.heap → (us ++ ds).length = ps.length → BindsTo s fd ⟨us, []⟩ (ps.zip (us ++ ds))

theorem Binds.all {K : PySem.W.Frag} {fd : FuncData} {ps : List Str} (h : ∀ us : List Value, us.length = ps.length → bindArgs fd ⟨us, []⟩ = pure (ps.zip us)) : Binds K fd ps [] := fun s us _ hl => by
  rw [List.append_nil] at hl ⊢
  exact .of_eq (h us hl)


def Passes (CX : CXT) (X : Cx) (E : XK) : Prop := ∀ (pins : List (Addr × Obj)) (σ : St) (H : Hp) (s : Shared) (e : Value) (s' : Shared), Inv X pins σ H s → CX X.stack H s E e s' → X.xe e s'

section
variable {X : Cx} {CX : CXT} {k : Nat} {f C : Addr} {fd : FuncData} {ps : List Str} {sp : Sp} {dvs : List V} {ds : List Value} {E : XK} {x m : Str} {p pos apos : Pos} {e o : Expr} {es : List Expr} {ta : TE} {t : TA}


theorem run_fn {pins : List (Addr × Obj)} {σ : St} {H : Hp} {s : Shared} {Q : VK} {us : List Value} {vs : List V} (F : FnOk X.prog X.w X.K X.mg X.base CX k f fd ps sp) (hr : Room k X.A) (hb : Binds X.K fd ps ds) (hd : Vals dvs ds) (hx : Passes CX X E)
    (I : Inv X pins σ H s) (r : Vals vs us) (h : sp (vs ++ dvs) H Q E) : wpAny (model X.prog X.w) X.A (call (.ref f) us) (EP X pins σ Q) X.xe s := by
  have r2 : Vals (vs ++ dvs) (us ++ ds) := r.append hd
  have hl : (us ++ ds).length = ps.length := by rw [← r2.length]; exact F.len _ _ _ _ h
  refine wpAny_call (codeAny_mono (F.run X.A X.stack s H ⟨us, []⟩ (us ++ ds) (vs ++ dvs) Q E hr I.env0 (hb s us I.kIn hl) r2 h) fun r s' hq => ?_)
  cases r with
  | error e => exact hx pins σ H s e s' I hq
  | ok fl =>
    cases fl with
    | ret u => exact I.after hq
    | next => exact False.elim hq
    | brk => exact False.elim hq
    | cont => exact False.elim hq

theorem pe_call (F : FnOk X.prog X.w X.K X.mg X.base CX k f fd ps sp) (hr : Room k X.A) (hg : Gl X x) (hm : X.mg x = some (.ref f)) (hk : PySem.W.keepIn X.K (.ref f) = true) (hb : Binds X.K fd ps ds) (hd : Vals dvs ds) (hx : Passes CX X E)
    (ha : PA X (e :: es) t) (hdb : (x == ("__debug__" : Str)) = false := by decide) (he : starEach (e :: es) X.env = (false, eval e X.env) :: starEach es X.env := by rfl) (hpl : (backTo pos (starEach es X.env)).any (·.1) = false := by rfl) :
    PE X (.Call (.Name x p) (e :: es) [] pos) (tCall sp dvs E t) := by
  intro pins s σ H Q I h
  refine wpAny_Call_Name_kw (ld_glob I hg hm ?_ hdb)
  refine PySem.W.callWith_K (h₀ := X.base) I.ok.mod.kin hk (thn (ha pos pins s σ H _ I h) fun us s1 ⟨vs, H1, I1, r, q⟩ => ⟨I1.kIn, ?_⟩) he hpl
  exact run_fn F hr hb hd hx I1 r q
structure Mk (K : PySem.W.Frag) (C f : Addr) : Prop where
  makes : PySem.W.makesIn K C = true
  init : PySem.W.findIn K (.ref C) "__init__" = some (some (.ref f))
  fn : PySem.W.isFn K (.ref f) = true
  kp : PySem.W.keepIn K (.ref C) = true

end



def PK (X : Cx) (kws : List Keyword) (t : TA) : Prop :=
  ∀ (pos : Pos) (pins : List (Addr × Obj)) (s : Shared) (σ : St) (H : Hp) (Q : List V → Hp → Prop), Inv X pins σ H s → t σ H Q → wpAny (model X.prog X.w) X.A (evalAll ((backToKw pos (keywordEach kws X.env)).map (·.2))) (AP X pins σ Q) X.xe s
section
variable {X : Cx} {CX : CXT} {k : Nat} {f C : Addr} {fd : FuncData} {ps ks : List Str} {sp : Sp} {E : XK} {x m : Str} {p pos apos kpos : Pos} {e o : Expr} {es : List Expr} {kws : List Keyword} {te ta : TE} {t tk : TA} {nm : Option Str}
structure KBinds (K : PySem.W.Frag) (fd : FuncData) (ps ks : List Str) (g : List Value → List Value → List Value) (gV : List V → List V → List V) : Prop where
  to : ∀ (s : Shared) (us ws : List Value), K.In s.heap → (g us ws).length = ps.length → BindsTo s fd ⟨us, ks.zip ws⟩ (ps.zip (g us ws))
  rel : ∀ {vs : List V} {us : List Value} {zs : List V} {ws : List Value}, Vals vs us → Vals zs ws → Vals (gV vs zs) (g us ws)
def tCallK (sp : Sp) (gV : List V → List V → List V) (E : XK) (t tk : TA) : TE := fun σ H Q => t σ H fun vs H1 => tk σ H1 fun zs H2 => sp (gV vs zs) H2 Q E
variable {g : List Value → List Value → List Value} {gV : List V → List V → List V}
end



structure FnScope (N P : List Str) (sc : Scope) : Prop where
  kind : sc.kind = .function
  co : sc.isCoroutine = false
  gen : sc.isGenerator = false
  nd : N.Nodup
  pre : N.take P.length = P
  par : ∀ x ∈ P, sc.names.lookup x = some .local ∨ sc.names.lookup x = some .cell
  nofree : ∀ y ∈ sc.names, y.2 ≠ .free

theorem bindL_out {kindOf : Str → Option NameKind} {x : Str} : ∀ {binds : List (Str × Value)} {m : Str → Option Value}, (∀ v, (x, v) ∉ binds) → bindL kindOf binds m x = m x
  | [], _, _ => rfl
  | (n, v) :: r, m, h => by
    unfold bindL
    rw [bindL_out fun w hw => h w (List.mem_cons_of_mem _ hw)]
    split
    · have : x ≠ n := by rintro rfl; exact h v List.mem_cons_self
      simp [this]
    · rfl
theorem bindC_out {kindOf : Str → Option NameKind} {x : Str} : ∀ {binds : List (Str × Value)} {m : Str → Option Value}, (∀ v, (x, v) ∉ binds) → bindC kindOf binds m x = m x
  | [], _, _ => rfl
  | (n, v) :: r, m, h => by
    unfold bindC
    rw [bindC_out fun w hw => h w (List.mem_cons_of_mem _ hw)]
    split
    · rfl
    · have : x ≠ n := by rintro rfl; exact h v List.mem_cons_self
      simp [this]
theorem bindL_get {kindOf : Str → Option NameKind} {x : Str} {v : Value} : ∀ {P : List Str} {vs : List Value} {i : Nat} {m : Str → Option Value}, P.Nodup → P[i]? = some x → vs[i]? = some v → kindOf x = some .local →
    bindL kindOf (P.zip vs) m x = some v
  | [], _, _, _, _, h, _, _ => by simp at h
  | _ :: _, [], _, _, _, _, h, _ => by simp at h
  | p :: P, w :: vs, 0, m, nd, h1, h2, hk => by
    simp at h1 h2; subst h1; subst h2
    show bindL kindOf ((p, w) :: P.zip vs) m p = _
    unfold bindL
    rw [bindL_out fun v hv => (List.nodup_cons.mp nd).1 (List.of_mem_zip hv).1, if_pos hk]
    simp
  | p :: P, w :: vs, i + 1, m, nd, h1, h2, hk => by
    show bindL kindOf ((p, w) :: P.zip vs) m x = _
    unfold bindL
    exact bindL_get (i := i) (List.nodup_cons.mp nd).2 (by simpa using h1) (by simpa using h2) hk
theorem bindC_get {kindOf : Str → Option NameKind} {x : Str} {v : Value} : ∀ {P : List Str} {vs : List Value} {i : Nat} {m : Str → Option Value}, P.Nodup → P[i]? = some x → vs[i]? = some v → kindOf x ≠ some .local →
    bindC kindOf (P.zip vs) m x = some v
  | [], _, _, _, _, h, _, _ => by simp at h
  | _ :: _, [], _, _, _, _, h, _ => by simp at h
  | p :: P, w :: vs, 0, m, nd, h1, h2, hk => by
    simp at h1 h2; subst h1; subst h2
    show bindC kindOf ((p, w) :: P.zip vs) m p = _
    unfold bindC
    rw [bindC_out fun v hv => (List.nodup_cons.mp nd).1 (List.of_mem_zip hv).1, if_neg hk]
    simp
  | p :: P, w :: vs, i + 1, m, nd, h1, h2, hk => by
    show bindC kindOf ((p, w) :: P.zip vs) m x = _
    unfold bindC
    exact bindC_get (i := i) (List.nodup_cons.mp nd).2 (by simpa using h1) (by simpa using h2) hk


def start (N : List Str) (vs : List V) : St := vs.map some ++ List.replicate (N.length - vs.length) none


def cxOf (CX : CXT) (P : Program) (w : World) (K : PySem.W.Frag) (mg : Str → Option Value) (base : Heap) (N : List Str) (qual : Str) (scope : Scope) (f : Addr) (cd : Value) (A : Around) (outer : List Env) (s : Shared) (H : Hp) (E : XK) : Cx where
  prog := P
  w := w
  K := K
  mg := mg
  base := base
  A := A.deeper (envOfC qual scope s.heap.objs.size f cd)
  N := N
  s₀ := s
  H₀ := H
  env := envOfC qual scope s.heap.objs.size f cd
  outer := outer
  stack := envOfC qual scope s.heap.objs.size f cd :: outer
  ex := []
  calm := true
  fn := fun _ => true
  pn := []
  xe := fun e s' => wpAny (model P w) (A.deeper (envOfC qual scope s.heap.objs.size f cd)) (leaving (envOfC qual scope s.heap.objs.size f cd) e) (fun _ s'' => CX outer H s E e s'') (fun e' s'' => CX outer H s E e' s'') s'

theorem cell_has {sc : Scope} {n : Nat} {x : Str} (h : sc.names.lookup x = some .cell) : ∃ c, (cellsFrom n sc.names []).lookup x = some c := by
  have q := PySem.W.cellsFrom_some sc.names n [] (.inl h)
  exact Option.isSome_iff_exists.mp q

theorem inv_start {CX : CXT} {P : Program} {w : World} {K : PySem.W.Frag} {mg : Str → Option Value} {base : Heap} {N ps : List Str} {qual : Str} {scope : Scope} {f : Addr} {cd : Value} {A : Around} {outer : List Env} {s s1 : Shared} {H : Hp} {E : XK} {us : List Value} {vs : List V}
    (S : FnScope N ps scope) (hd : A.handled = none) (e0 : Env0 P w K mg base A outer s H) (hl : vs.length = ps.length) (r : Vals vs us)
    (x : InCallC s s.heap.objs.size (bindL (envOfC qual scope s.heap.objs.size f cd).kindOf (ps.zip us) fun _ => none) (cellsFrom (s.heap.objs.size + 1) scope.names []) (bindC (envOfC qual scope s.heap.objs.size f cd).kindOf (ps.zip us) fun _ => none) s1) :
    Inv (cxOf CX P w K mg base N qual scope f cd A outer s H E) [] (start N vs) H s1 := by
  have hpl : ps.length ≤ N.length := by have := congrArg List.length S.pre; rw [List.length_take] at this; omega
  obtain ⟨h1, tk, rfl, hk⟩ := x.done
  have noA : ∀ b : Addr, b ∉ (cxOf CX P w K mg base N qual scope f cd A outer s H E).ex := fun b z => absurd (show b ∈ ([] : List Addr) from z) (by simp)
  refine ⟨⟨e0.mod, S.kind, rfl, rfl, Nat.le_refl _, fun y z c h1 h2 => ?_, fun y hy => ?_, fun y c _ h => ?_, fun _ => hd, Around.frames_deeper e0.frames, .inr ⟨rfl, rfl⟩, fun b z => absurd z (noA b), e0.bs, e0.bsz, fun b _ _ => noA b, fun b z => absurd z (noA b), e0.funs, e0.frf⟩,
    rfl, e0.bare, Un.kept hk, ⟨_, x.toInCall.ns, fun i y v h1 h2 h3 => ?_⟩, fun y c h => ⟨_, x.cell y c h⟩, e0.hok.fresh (Nat.le_refl _), fun y c h => ?_, fun p hp => absurd (show p ∈ ([] : List (Addr × Obj)) from hp) (by simp), e0.hok.kept hk, ?_⟩
  · exact name_of_addr x.apart (PySem.mem_of_lookup h1) (PySem.mem_of_lookup h2)
  · have hy : scope.names.lookup y = some .cell ∨ scope.names.lookup y = some .free := hy
    rcases hy with hy | hy
    · exact cell_has hy
    · exact absurd rfl (S.nofree _ (PySem.mem_of_lookup hy))
  · exact Nat.le_of_lt (x.above y c (PySem.mem_of_lookup h))
  · have hi : i < vs.length := by
      unfold start at h2
      by_cases hi : i < vs.length
      · exact hi
      · rw [List.getElem?_append_right (by simpa using hi)] at h2
        rw [List.getElem?_replicate] at h2
        split at h2 <;> cases h2
    have ha : vs[i]? = some v := by
      unfold start at h2
      rw [List.getElem?_append_left (by simpa using hi), List.getElem?_map] at h2
      cases e : vs[i]? with
      | none => rw [e] at h2; cases h2
      | some a => rw [e] at h2; cases h2; rfl
    obtain ⟨u, hu, rv⟩ := r.get ha
    have hp : ps[i]? = some y := by
      rw [← S.pre, List.getElem?_take_of_lt (by omega)]; exact h1
    have ndP : ps.Nodup := by rw [← S.pre]; exact S.nd.sublist (List.take_sublist _ _)
    refine ⟨u, rv, ?_⟩
    rcases S.par y (List.mem_of_getElem? hp) with k | k
    · exact .inl ⟨k, bindL_get ndP hp hu k⟩
    · obtain ⟨c, e⟩ := cell_has (n := s.heap.objs.size + 1) k
      refine .inr ⟨.inl k, c, e, ?_⟩
      have q := x.cell y c e
      rw [bindC_get ndP hp hu (by show scope.names.lookup y ≠ _; rw [k]; decide)] at q
      exact q
  · exact e0.hok.fresh (Nat.le_of_lt (x.above y c (PySem.mem_of_lookup h)))
  · unfold start
    show _ = N.length
    rw [List.length_append, List.length_map, List.length_replicate]
    omega


theorem fn_of {CX : CXT} {P : Program} {w : World} {K : PySem.W.Frag} {mg : Str → Option Value} {base : Heap} {k : Nat} {f : Addr} {name qual : Str} {params : Arguments} {body : List Stmt} {scope : Scope} {dV kV doc pm cdv ct oc : Value} {an od : Option Addr}
    {osl : Array (Option Value)} {N ps : List Str} {sp : Sp} (lk : K.lookup f = some ⟨oc, od, .func (PySem.W.fnOf name qual params body scope dV kV doc pm an cdv ct), osl⟩) (hcd : PySem.W.codeIn K cdv qual = true) (S : FnScope N ps scope)
    (len : ∀ vs H Q E, sp vs H Q E → vs.length = ps.length)
    (hbody : ∀ (A : Around) (outer : List Env) (s : Shared) (H : Hp) (vs : List V) (Q : VK) (E : XK), Room k (A.deeper (envOfC qual scope s.heap.objs.size f cdv)) → sp vs H Q E →
      ∃ t, PSs (cxOf CX P w K mg base N qual scope f cdv A outer s H E) body t ∧ t { nx := fun _ H' => Q .non H', rt := Q } (start N vs) H) :
    FnOk P w K mg base CX (k + 1) f (PySem.W.fnOf name qual params body scope dV kV doc pm an cdv ct) ps sp := by
  refine ⟨len, fun A outer s H args us vs Q E hr e0 hb r hsp => ?_⟩
  have hl := len _ _ _ _ hsp
  have KX : K.In s.heap := e0.mod.kin.keeps fun b o e => (e0.bs b o e).1
  have lim : s.heap.NoLimit := e0.mod.nolimit.keeps fun b o e => (e0.bs b o e).1
  have hkind : ∀ y ∈ ps.zip us, scope.names.lookup y.1 = some .local ∨ (scope.names.lookup y.1 = some .cell ∧ ((cellsFrom (s.heap.objs.size + 1) scope.names []).lookup y.1).isSome = true) := fun ⟨n, v⟩ hy => by
    rcases S.par n (List.of_mem_zip hy).1 with q | q
    · exact .inl q
    · exact .inr ⟨q, PySem.W.cellsFrom_some _ _ _ (.inl q)⟩
  refine codeAny_call_function hr.depth (KX _ _ lk) rfl S.co S.gen rfl (PySem.W.codeRec_of KX hcd) (hb _ _ _ _ ?_)
  refine wpAny_newFunctionEnv_cells S.kind hkind fun env he s1 x => ?_
  subst he
  refine ⟨lim.keeps x.toInCall.keep, codeAny_func ?_⟩
  obtain ⟨t, ht, hq⟩ := hbody A outer s H vs Q E (hr.deeper _) hsp
  have I : Inv (cxOf CX P w K mg base N qual scope f cdv A outer s H E) [] (start N vs) H s1 := inv_start S hr.hd e0 hl r x
  refine wpAny_mono (ht [] s1 (start N vs) H _ I hq) (fun fl s' hs => ?_) fun e s' hs => hs
  have fin : ∀ {σ' : St} {H' : Hp} {v : V} {u : Value}, Inv (cxOf CX P w K mg base N qual scope f cdv A outer s H E) [] σ' H' s' → RelV v u → Q v H' → CE outer P w H s Q u s' :=
    fun {σ' H' v u} J rv q => ⟨v, H', J.os, J.bare, J.base, J.hok, rv, q⟩
  cases fl with
  | ret u =>
    obtain ⟨v, σ', H', J, rv, q⟩ := hs
    exact fin J rv q
  | next =>
    obtain ⟨σ', H', J, q⟩ := hs
    exact fin (v := V.non) (u := Value.none) J rfl q
  | brk =>
    obtain ⟨_, _, _, q⟩ := hs
    exact False.elim q
  | cont =>
    obtain ⟨_, _, _, q⟩ := hs
    exact False.elim q
end L2

namespace L2
open PySem PySem.Spec PyProof.Rows
section
variable {X : Cx} {x : Str} {p pos : Pos} {e : Expr} {es : List Expr} {t : TA} {id T : String} {r : List V → Hp → VK → Prop}

def tCB (r : List V → Hp → VK → Prop) (t : TA) : TE := fun σ H Q => t σ H fun vs H1 => r vs H1 Q

theorem pe_callB (hc : CallR X (.builtin id) r) (hg : Gl X x) (hm : X.mg x = none) (hv : bootBuiltins x = some (.builtin id)) (ha : PA X (e :: es) t) (hn : x ≠ "__name__" := by decide) (hdb : (x == ("__debug__" : Str)) = false := by decide)
    (he : starEach (e :: es) X.env = (false, eval e X.env) :: starEach es X.env := by rfl) (hpl : (backTo pos (starEach es X.env)).any (·.1) = false := by rfl) : PE X (.Call (.Name x p) (e :: es) [] pos) (tCB r t) := by
  intro pins s σ H Q I h
  refine wpAny_Call_Name_kw (ld_blt I hg hm hv ?_ hn hdb)
  exact PyProof.Rows.callWith_builtin1 (thn (ha pos pins s σ H _ I h) fun us s1 ⟨vs, H1, I1, r1, q1⟩ => hc pins s1 σ H1 vs us Q I1 r1 q1) he hpl

theorem pe_callTy (hc : CallR X (.type T) r) (hg : Gl X x) (hm : X.mg x = none) (hv : bootBuiltins x = some (.type T)) (ha : PA X (e :: es) t) (hn : x ≠ "__name__" := by decide) (hdb : (x == ("__debug__" : Str)) = false := by decide)
    (he : starEach (e :: es) X.env = (false, eval e X.env) :: starEach es X.env := by rfl) (hpl : (backTo pos (starEach es X.env)).any (·.1) = false := by rfl) : PE X (.Call (.Name x p) (e :: es) [] pos) (tCB r t) := by
  intro pins s σ H Q I h
  refine wpAny_Call_Name_kw (ld_blt I hg hm hv ?_ hn hdb)
  exact PyProof.Rows.callWith_type1 (thn (ha pos pins s σ H _ I h) fun us s1 ⟨vs, H1, I1, r1, q1⟩ => hc pins s1 σ H1 vs us Q I1 r1 q1) he hpl

end
end L2

namespace HT
open PySem PyProof.Rows


def lexLt : List Int → List Int → Bool
  | [], [] => false
  | [], _ :: _ => true
  | _ :: _, [] => false
  | x :: xs, y :: ys => if x = y then lexLt xs ys else decide (x < y)
theorem lexLt_cons (x y : Int) (xs ys : List Int) : lexLt (x :: xs) (y :: ys) = if x = y then lexLt xs ys else decide (x < y) := rfl
theorem lexLt_nil_nil : lexLt [] [] = false := rfl
section
open PySem.SeqAt
open PySem.AutoSeq1 (wpAny_loadPart')
open PySem.MeetsSeq PySem.MeetsSeq2 PySem.MeetsSeq3

end

section
variable {prog : Program} {w : World} {A : Around} {E : Value → Shared → Prop} {s : Shared}

theorem cat_tup {t b : Addr} {vs ws : List Value} {Q : Value → Shared → Prop} (ht : IsTup s.heap t vs.toArray) (hb : IsTup s.heap b ws.toArray) (hv : vs ≠ [])
    (h1 : ws = [] → Q (.ref t) s) (h2 : ws ≠ [] → Q (.ref s.heap.objs.size) { s with heap := s.heap.push { cls := .type "tuple", data := .seq (vs ++ ws).toArray } })
    (hsz : vs.length + ws.length ≤ sizeLine) : wpAny (model prog w) A (binaryOp .Add (.ref t) (.ref b)) Q E s := by
  obtain ⟨⟨cls, dd, data, sl⟩, ho, hc, n, hd⟩ := id ht
  obtain ⟨⟨cls2, dd2, data2, sl2⟩, ho2, hc2, n2, hd2⟩ := id hb
  simp only at hc hd hc2 hd2
  subst hc hd hc2 hd2
  have e : vs.toArray ++ ws.toArray = (vs ++ ws).toArray := by simp
  by_cases hw : ws = []
  · exact concat_meets ⟨_, ho, rfl⟩ ⟨_, ho2, rfl⟩ noFill_tuple_add seq_tuple_add PySem.F.slot_tuple_add PySem.F.entry_tuple_add (PySem.F.args_tuple_add_2 _ _)
      (tuple_addW1 t b vs.toArray ws.toArray n n2 dd dd2 sl sl2 (by simpa using hv) (by simp [hw])) ⟨ho, ho2, h1 hw⟩
  · refine concat_meets ⟨_, ho, rfl⟩ ⟨_, ho2, rfl⟩ noFill_tuple_add seq_tuple_add PySem.F.slot_tuple_add PySem.F.entry_tuple_add (PySem.F.args_tuple_add_2 _ _)
      (tuple_addW2 t b vs.toArray ws.toArray n n2 dd dd2 sl sl2 (by simpa using hv) (by simpa using hw) (by rw [List.size_toArray, List.size_toArray]; exact hsz)) ⟨ho, ho2, ?_⟩
    rw [e]
    exact h2 hw



def sIx (n d : Nat) : Option Int → Nat
  | none => d
  | some v => if v < 0 then (v + (n : Int)).toNat else min v.toNat n
theorem sIx_none (n d : Nat) : sIx n d none = d := rfl
theorem sIx_nat (n d k : Nat) : sIx n d (some (k : Int)) = min k n := by
  show (if (k : Int) < 0 then ((k : Int) + (n : Int)).toNat else min (k : Int).toNat n) = min k n
  rw [if_neg (by omega), Int.toNat_natCast]
theorem sIx_le (n d : Nat) (hd : d ≤ n) (o : Option Int) : sIx n d o ≤ n := by
  cases o with
  | none => exact hd
  | some v =>
    show (if v < 0 then (v + (n : Int)).toNat else min v.toNat n) ≤ n
    by_cases hv : v < 0
    · rw [if_pos hv]; omega
    · rw [if_neg hv]; exact Nat.min_le_right _ _
theorem clip_eq (v : Int) (n d : Nat) : (if v < 0 then max (v + (n : Int)) 0 else min v (n : Int)) = ((sIx n d (some v) : Nat) : Int) := by
  show (if v < 0 then max (v + (n : Int)) 0 else min v (n : Int)) = (((if v < 0 then (v + (n : Int)).toNat else min v.toNat n) : Nat) : Int)
  by_cases hv : v < 0
  · simp only [if_pos hv]; omega
  · simp only [if_neg hv]; omega
theorem adjust_gen (lo hi : Option Int) (n : Nat) : Builtin.Slice.sliceAdjust lo hi 1 (n : Int) = (((sIx n 0 lo : Nat) : Int), ((sIx n n hi : Nat) : Int)) := by
  have h1 : ¬ ((1 : Int) < 0) := by omega
  unfold Builtin.Slice.sliceAdjust
  simp only [h1, if_false]
  refine Prod.ext ?_ ?_
  · cases lo with
    | none => rfl
    | some v => exact clip_eq v n 0
  · cases hi with
    | none => rfl
    | some v => exact clip_eq v n n
theorem places_gen (i j : Nat) : Builtin.Slice.slicePlaces (i : Int) (j : Int) 1 = j - i := by
  unfold Builtin.Slice.slicePlaces
  have h1 : (1 : Int) > 0 := by omega
  simp only [h1, if_true, Int.ediv_one]
  split <;> omega
theorem slicePart_ {v : Value} {o : Option Int} {Q : Option Int → Shared → Prop} (p : IsPart v o) (h : Q o s) : wpAny (model prog w) A (Builtin.Slice.slicePartIndex v) Q E s := by
  cases p with
  | none => exact slicePart_none h
  | int i t => exact slicePart_int h
theorem sliceApplied_gen {sl : Addr} {vl vu : Value} {lo hi : Option Int} {n : Nat} {Q : Int × Int × Nat → Shared → Prop} (hs : s.heap.IsSliceOf sl vl vu .none) (pl : IsPart vl lo) (pu : IsPart vu hi)
    (h : Q (((sIx n 0 lo : Nat) : Int), 1, sIx n n hi - sIx n 0 lo) s) : wpAny (model prog w) A (Builtin.Slice.sliceApplied (.ref sl) (pure (n : Int))) Q E s := by
  obtain ⟨os, hos, hcs, hds⟩ := id hs
  unfold Builtin.Slice.sliceApplied Builtin.Slice.sliceFields
  refine wpAny_bind (wpAny_bind (wpAny_field hos hds (x := vl) rfl (wpAny_bind (wpAny_field hos hds (x := vu) rfl (wpAny_bind (wpAny_field hos hds (x := .none) rfl (wpAny_pure ?_)))))))
  refine wpAny_bind (slicePart_none ?_)
  show wpAny _ _ (if ((1 : Int) == 0) = true then _ else _) _ _ s
  rw [if_neg (by decide)]
  refine wpAny_bind (slicePart_ pl (wpAny_bind (slicePart_ pu (wpAny_bind (wpAny_pure ?_)))))
  show wpAny _ _ (match Builtin.Slice.sliceAdjust lo hi 1 (n : Int) with | (lo, hi) => pure (lo, (1 : Int), Builtin.Slice.slicePlaces lo hi 1)) _ _ s
  rw [adjust_gen lo hi n]
  show wpAny _ _ (pure (((sIx n 0 lo : Nat) : Int), (1 : Int), Builtin.Slice.slicePlaces ((sIx n 0 lo : Nat) : Int) ((sIx n n hi : Nat) : Int) 1)) _ _ s
  rw [places_gen]
  exact wpAny_pure h
theorem pick_gen (xs : Array Value) (i k : Nat) : ((List.range k).filterMap fun (m : Nat) => xs[((i : Int) + (m : Int) * 1).toNat]?).toArray = ((xs.toList.drop i).take k).toArray := by
  have e : (fun (m : Nat) => xs[((i : Int) + (m : Int) * 1).toNat]?) = fun m => xs[i + m]? := by
    funext m
    have : ((i : Int) + (m : Int) * 1).toNat = i + m := by omega
    rw [this]
  rw [e]
  have := pick_run xs i k
  rw [List.filterMap_map] at this
  have e2 : ((fun x => xs[x]?) ∘ fun x => i + x) = fun m => xs[i + m]? := rfl
  rw [e2] at this
  rw [this]

theorem getItem_tuple_cut {t sl : Addr} {items : Array Value} {vl vu : Value} {lo hi : Option Int} {Q : Value → Shared → Prop} (ht : IsTup s.heap t items) (hs : s.heap.IsSliceOf sl vl vu .none) (pl : IsPart vl lo) (pu : IsPart vu hi)
    (hw : ¬ (sIx items.size 0 lo = 0 ∧ sIx items.size items.size hi = items.size))
    (h : Q (.ref s.heap.objs.size) { s with heap := s.heap.push { cls := .type "tuple", data := .seq ((items.toList.drop (sIx items.size 0 lo)).take (sIx items.size items.size hi - sIx items.size 0 lo)).toArray } })
    (hsz : items.size ≤ sizeLine) : wpAny (model prog w) A (getItem (.ref t) (.ref sl)) Q E s := by
  have htake : sizeOk (.seq ((items.toList.drop (sIx items.size 0 lo)).take (sIx items.size items.size hi - sIx items.size 0 lo)).toArray) := by
    show ((items.toList.drop (sIx items.size 0 lo)).take (sIx items.size items.size hi - sIx items.size 0 lo)).toArray.size ≤ sizeLine
    rw [List.size_toArray, List.length_take, List.length_drop, Array.length_toList]
    omega
  have hj : sIx items.size items.size hi ≤ items.size := sIx_le _ _ (Nat.le_refl _) hi
  obtain ⟨os, hos, hcs, hds⟩ := id hs
  have hTs : s.TypeIs (.ref sl) "slice" := ⟨os, hos, hcs⟩
  unfold getItem
  try with_reducible refine wpAny_holding ?_
  first | refine wpAny_bind (wpAny_pure ?_) | skip
  refine wpAny_bind (wpAny_sequenceKey ht.typeIs (by decide) ?_)
  refine wpAny_bind (wpAny_callSpecial?_slot (name := Str.ofString "__getitem__") ht.typeIs PyProof.Rows.slot_tuple_getitem
    (wpAny_call_entry PyProof.Rows.slot_tuple_getitem ht.typeIs entry_tuple_getitem ?_ (args_tuple_getitem _ _)))
  show wpAny _ _ (Builtin.Tuple.tupleItemsOf (.ref t) >>= _) _ _ s
  refine wpAny_bind (tupleItemsOf_ ht ?_)
  refine wpAny_bind (wpAny_typeOf hTs ?_)
  rw [if_pos (by decide)]
  refine wpAny_bind (sliceApplied_gen hs pl pu ?_)
  have hno : ¬ ((((sIx items.size 0 lo : Nat) : Int) == 0 && (1 : Int) == 1 && (sIx items.size items.size hi - sIx items.size 0 lo) == items.size) = true) := by
    intro q
    rw [Bool.and_eq_true, Bool.and_eq_true] at q
    have q1 : ((sIx items.size 0 lo : Nat) : Int) = 0 := eq_of_beq q.1.1
    have q2 : sIx items.size items.size hi - sIx items.size 0 lo = items.size := eq_of_beq q.2
    exact hw ⟨by omega, by omega⟩
  show wpAny _ _ (if (((sIx items.size 0 lo : Nat) : Int) == 0 && (1 : Int) == 1 && (sIx items.size items.size hi - sIx items.size 0 lo) == items.size) = true then _ else _) _ _ s
  rw [if_neg hno, pick_gen]
  first
    | exact wpAny_bind (m := Builtin.Tuple.tupleExact _) (wpAny_newObj_type (wpAny_pure ⟨_, rfl, wpAny_pure h⟩) htake)
    | exact wpAny_bind (m := Builtin.Tuple.tupleExact _) (wpAny_newObj_type (wpAny_bind (wpAny_pure (wpAny_pure ⟨_, rfl, wpAny_pure h⟩))) htake)
    | exact wpAny_bind (wpAny_bind (m := Builtin.Tuple.tupleExact _) (wpAny_newObj_type (wpAny_pure (wpAny_pure ⟨_, rfl, wpAny_pure h⟩)) htake))
    | exact wpAny_bind (wpAny_bind (m := Builtin.Tuple.tupleExact _) (wpAny_newObj_type (wpAny_pure ⟨_, rfl, wpAny_pure h⟩) htake))
end
end HT

namespace L2
open PySem PySem.Spec PyProof.Rows


abbrev TO := St → Hp → (Option Int → Hp → Prop) → Prop

def PO (X : Cx) (e : Option Expr) (t : TO) : Prop :=
  ∀ (pins : List (Addr × Obj)) (s : Shared) (σ : St) (H : Hp) (Q : Option Int → Hp → Prop), Inv X pins σ H s → t σ H Q →
    wpAny (model X.prog X.w) X.A (evalPart e X.env) (fun u s' => ∃ o H', Inv X pins σ H' s' ∧ IsPart u o ∧ Q o H') X.xe s
def tNoPart : TO := fun _ H Q => Q none H
def tPart (t : TE) : TO := fun σ H Q => t σ H fun x H1 => ∃ i, x = .int i ∧ Q (some i) H1

section
variable {X : Cx} {e : Expr} {te : TE} {lo hi : Option Expr} {tl th : TO} {pos p2 : Pos}

theorem po_none : PO X none tNoPart := by
  intro pins s σ H Q I h
  rw [evalPart_none]
  exact wpAny_pure ⟨none, H, I, .none, h⟩
theorem po_some (h : PE X e te) : PO X (some e) (tPart te) := by
  intro pins s σ H Q I hw
  rw [evalPart_some]
  refine thn (h pins s σ H _ I hw) fun u s1 ⟨x, H1, I1, r1, q1⟩ => ?_
  obtain ⟨i, rfl, q⟩ := q1
  obtain ⟨t, rfl⟩ := r1
  exact ⟨some i, H1, I1, .int i t, q⟩


def SlR (X : Cx) (r : V → Option Int → Option Int → Hp → VK → Prop) : Prop :=
  ∀ (pins : List (Addr × Obj)) (s : Shared) (σ : St) (H : Hp) (x : V) (v vl vu : Value) (lo hi : Option Int) (sl : Addr) (Q : VK), Inv X pins σ H s → RelV x v → s.heap.IsSliceOf sl vl vu .none → IsPart vl lo → IsPart vu hi → r x lo hi H Q →
    ∃ T id, typeLookup (.type T) "__getitem__" = pure (some (.builtin id)) ∧ s.TypeIs v T ∧ wpAny (model X.prog X.w) X.A (getItem v (.ref sl)) (EP X pins σ Q) X.xe s
def tSl (r : V → Option Int → Option Int → Hp → VK → Prop) (te : TE) (tl th : TO) : TE := fun σ H Q => te σ H fun x H1 => tl σ H1 fun l H2 => th σ H2 fun u H3 => r x l u H3 Q

theorem pe_slice {r : V → Option Int → Option Int → Hp → VK → Prop} (hr : SlR X r) (he : PE X e te) (hl : PO X lo tl) (hu : PO X hi th) : PE X (.Subscript e (.Slice lo hi none p2) pos) (tSl r te tl th) := by
  intro pins s σ H Q I h
  refine Subscript_ (thn (he pins s σ H _ I h) fun v s1 ⟨x, H1, I1, r1, q1⟩ => ?_)
  refine wpAny_Slice (thn (hl pins s1 σ H1 _ I1 q1) fun vl s2 ⟨l, H2, I2, pl, q2⟩ => thn (hu pins s2 σ H2 _ I2 q2) fun vu s3 ⟨u, H3, I3, pu, q3⟩ => ?_)
  rw [evalPart_none]
  refine wpAny_pure ?_
  have I4 : Inv X pins σ H3 { s3 with heap := s3.heap.push { cls := .type "slice", data := .fields #[vl, vu, .none] } } := I3.kept (t' := s3.toks) fun b ob q => Heap.get?_push_of_some _ q
  obtain ⟨T, id, hT, ht, hg⟩ := hr pins { s3 with heap := s3.heap.push { cls := .type "slice", data := .fields #[vl, vu, .none] } } σ H3 x v vl vu l u s3.heap.objs.size Q I4 r1 (Heap.IsSliceOf.new ..) pl pu q3
  show wpAny (model X.prog X.w) X.A (subscriptTail e (.Slice lo hi none p2) v (.ref s3.heap.objs.size)) (EP X pins σ Q) X.xe { s3 with heap := s3.heap.push { cls := .type "slice", data := .fields #[vl, vu, .none] } }
  exact tail_any (ops := [.ref s3.heap.objs.size, v]) ht hT hg (by with_unfolding_all rfl)


def cutV (xs : List V) (lo hi : Option Int) : List V := (xs.drop (HT.sIx xs.length 0 lo)).take (HT.sIx xs.length xs.length hi - HT.sIx xs.length 0 lo)
theorem cutV_length (xs : List V) (lo hi : Option Int) : (cutV xs lo hi).length ≤ xs.length := by
  unfold cutV
  rw [List.length_take, List.length_drop]
  omega

def rSlT (K : PySem.W.Frag) : V → Option Int → Option Int → Hp → VK → Prop := fun x lo hi H Q => ∃ a xs, x = .ref a ∧ SqT K H a xs ∧
  ¬ (HT.sIx xs.length 0 lo = 0 ∧ HT.sIx xs.length xs.length hi = xs.length) ∧ ∀ p, H p = none → Q (.ref p) (upd H p (.tup (cutV xs lo hi)))
theorem sl_tup : SlR X (rSlT X.K) := by
  intro pins s σ H x v vl vu lo hi sl Q I rx hs pl pu h
  obtain ⟨a, xs, rfl, hx, hw, q⟩ := h
  cases rx
  obtain ⟨its, r, ht, hz⟩ := I.tuple hx
  have hlen : its.toArray.size = xs.length := by rw [List.size_toArray]; exact r.length.symm
  refine ⟨"tuple", _, PyProof.Rows.slot_tuple_getitem.lookup, ht.typeIs, ?_⟩
  refine HT.getItem_tuple_cut ht hs pl pu (by rw [hlen]; exact hw) ?_ (by rw [hlen]; exact hz)
  rw [hlen]
  refine ⟨.ref s.heap.objs.size, _, I.laid (t' := s.toks) (o := .tup (cutV xs lo hi)) (fun b ob q => Heap.get?_push_of_some _ q) (Nat.le_refl _) ?_, rfl, q _ (I.hok.fresh (Nat.le_refl _))⟩
  exact ⟨Nat.le_trans (cutV_length xs lo hi) hz, _, (r.drop (HT.sIx xs.length 0 lo)).take (HT.sIx xs.length xs.length hi - HT.sIx xs.length 0 lo), IsTup.new _ _⟩


def rLtT (K : PySem.W.Frag) : R2 := fun x y H Q => ∃ a b ns ms, x = .ref a ∧ y = .ref b ∧ SqT K H a (ns.map V.int) ∧ SqT K H b (ms.map V.int) ∧ Q (.bl (HT.lexLt ns ms)) H
def rCatT (K : PySem.W.Frag) : R2 := fun x y H Q => ∃ a b xs ys, x = .ref a ∧ y = .ref b ∧ SqT K H a xs ∧ SqT K H b ys ∧ xs ≠ [] ∧ xs.length + ys.length ≤ sizeLine ∧
  (ys = [] → Q (.ref a) H) ∧ (ys ≠ [] → ∀ p, H p = none → Q (.ref p) (upd H p (.tup (xs ++ ys))))
theorem Vals.nil_iff {xs : List V} {us : List Value} (r : Vals xs us) : us = [] ↔ xs = [] := by
  cases r with
  | nil => simp
  | cons _ _ => simp
theorem op_catT : OpR X (binaryOp .Add) (rCatT X.K) := by
  intro pins s σ H x y v u Q I rx ry h
  obtain ⟨a, b, xs, ys, rfl, rfl, ha, hb, hx, hz, q1, q2⟩ := h
  cases rx
  cases ry
  obtain ⟨its, r1, p1, _⟩ := I.tuple ha
  obtain ⟨its2, r2, p2, _⟩ := I.tuple hb
  refine HT.cat_tup p1 p2 (fun z => hx (r1.nil_iff.mp z)) (fun z => ⟨.ref a, H, I, rfl, q1 (r2.nil_iff.mp z)⟩) (fun z => ?_) (by rw [← r1.length, ← r2.length]; exact hz)
  refine ⟨.ref s.heap.objs.size, _, I.laid (t' := s.toks) (o := .tup (xs ++ ys)) (fun b ob q => Heap.get?_push_of_some _ q) (Nat.le_refl _) ?_, rfl, q2 (fun w => z (r2.nil_iff.mpr w)) _ (I.hok.fresh (Nat.le_refl _))⟩
  exact ⟨by rw [List.length_append]; exact hz, _, r1.append r2, IsTup.new _ _⟩

end
end L2

namespace L2
open PySem PySem.Spec PyProof.Rows



def ixN (n : Nat) (i : Int) : Option Nat := if 0 ≤ i then (if i < n then some i.toNat else none) else if -(n : Int) ≤ i then some (i + n).toNat else none
def atI {α : Type} (xs : List α) (i : Int) : Option α := (ixN xs.length i).bind fun j => xs[j]?
theorem ixN_seq {n : Nat} {i : Int} {j : Nat} (h : ixN n i = some j) : seqIndex? i n = some j ∧ j < n ∧ -(n : Int) ≤ i ∧ i < n := by
  unfold ixN at h
  by_cases h0 : 0 ≤ i
  · rw [if_pos h0] at h
    by_cases h1 : i < n
    · rw [if_pos h1] at h
      have e : i.toNat = j := Option.some.inj h
      exact ⟨by rw [seqIndex_of h0 h1, e], by omega, by omega, h1⟩
    · rw [if_neg h1] at h; cases h
  · rw [if_neg h0] at h
    by_cases h1 : -(n : Int) ≤ i
    · rw [if_pos h1] at h
      have e : (i + n).toNat = j := Option.some.inj h
      exact ⟨by rw [seqIndex_neg (by omega) h1, e], by omega, h1, by omega⟩
    · rw [if_neg h1] at h; cases h
theorem atI_get {α : Type} {xs : List α} {i : Int} {v : α} (h : atI xs i = some v) : ∃ j, seqIndex? i xs.length = some j ∧ xs[j]? = some v ∧ j < xs.length ∧ -(xs.length : Int) ≤ i ∧ i < xs.length := by
  unfold atI at h
  cases e : ixN xs.length i with
  | none => rw [e] at h; cases h
  | some j =>
    rw [e] at h
    obtain ⟨h1, h2, h3, h4⟩ := ixN_seq e
    exact ⟨j, h1, h, h2, h3, h4⟩
theorem atI_nat {α : Type} {xs : List α} {j : Nat} {v : α} (h : xs[j]? = some v) : atI xs (j : Int) = some v := by
  have hj : j < xs.length := (List.getElem?_eq_some_iff.mp h).1
  have e : ixN xs.length (j : Int) = some j := by
    unfold ixN
    rw [if_pos (by omega), if_pos (by omega)]; simp
  unfold atI; rw [e]; exact h
def PlainIx (b : Expr) : Prop := ∀ o i, subscripted b false o i = operate [o, i] (getItem o i)

def IxR (X : Cx) (r : R2) : Prop :=
  ∀ (value slice : Expr) (pins : List (Addr × Obj)) (s : Shared) (σ : St) (H : Hp) (x y : V) (v u : Value) (Q : VK), Inv X pins σ H s → RelV x v → RelV y u → r x y H Q →
    subscripted slice false v u = operate [v, u] (getItem v u) → wpAny (model X.prog X.w) X.A (subscriptTail value slice v u) (EP X pins σ Q) X.xe s

def MtR (X : Cx) (id : String) (r : V → List V → Hp → VK → Prop) : Prop :=
  ∀ (pins : List (Addr × Obj)) (s : Shared) (σ : St) (H : Hp) (x : V) (xs : List V) (v : Value) (us : List Value) (Q : VK), Inv X pins σ H s → RelV x v → Vals xs us → r x xs H Q →
    wpAny (model X.prog X.w) X.A (call (.builtin id) (v :: us)) (EP X pins σ Q) X.xe s
section
variable {X : Cx} {a b : Expr} {ta tb : TE} {pos : Pos}
theorem pe_ix {r : R2} (hr : IxR X r) (ha : PE X a ta) (hb : PE X b tb) (hs : PlainIx b) : PE X (.Subscript a b pos) (tOp r ta tb) := by
  intro pins s σ H Q I h
  exact Subscript_ (binT ha hb I h fun v u s2 x y H2 I2 rx ry q => hr a b pins s2 σ H2 x y v u Q I2 rx ry q (hs _ _))

def rIxL (K : PySem.W.Frag) : R2 := fun x y H Q => ∃ p xs i v, x = .ref p ∧ y = .int i ∧ SqL K H p xs ∧ atI xs i = some v ∧ Q v H
def rIxT (K : PySem.W.Frag) : R2 := fun x y H Q => ∃ p xs i v, x = .ref p ∧ y = .int i ∧ SqT K H p xs ∧ atI xs i = some v ∧ Q v H
def rIxS : R2 := fun x y H Q => ∃ z i c, x = .str z ∧ y = .int i ∧ z.length ≤ sizeLine ∧ atI z.cps.toList i = some c ∧ Q (.str ⟨#[c]⟩) H
theorem ix_list : IxR X (rIxL X.K) := by
  intro value slice pins s σ H x y v u Q I rx ry h hs
  obtain ⟨p, xs, i, z, rfl, rfl, hq, he, q⟩ := h
  cases rx
  obtain ⟨t, rfl⟩ := ry
  obtain ⟨its, r, pl, hz⟩ := I.list hq
  obtain ⟨j, h1, h2, h3, h4, h5⟩ := atI_get he
  obtain ⟨w, ew, rw'⟩ := r.get h2
  have hl := r.length
  have hn := line63
  have fin : EP X pins σ Q w s := ⟨z, H, I, rw', q⟩
  by_cases h0 : 0 ≤ i
  · have hj : i.toNat = j := by
      rw [seqIndex_of h0 h5] at h1
      exact Option.some.inj h1
    exact item_listR pl.isList h0 (by omega) (by rw [hj]; simpa using ew) fin hs
  · have hj : (i + (its.toArray.size : Int)).toNat = j := by
      rw [seqIndex_neg (by omega) h4] at h1
      rw [List.size_toArray, ← hl]
      exact Option.some.inj h1
    exact subscriptTail_builtinR (x := w) pl.isList.typeIs slot_list_getitem.lookup
      (wpAny_getItem_list_neg (Q := fun r s' => r = w ∧ EP X pins σ Q r s') pl.isList (by omega) (by rw [List.size_toArray] <;> omega) (by omega) (by rw [hj]; simpa using ew) ⟨rfl, fin⟩) hs
theorem ix_tup : IxR X (rIxT X.K) := by
  intro value slice pins s σ H x y v u Q I rx ry h hs
  obtain ⟨p, xs, i, z, rfl, rfl, hq, he, q⟩ := h
  cases rx
  obtain ⟨t, rfl⟩ := ry
  obtain ⟨its, r, pl, hz⟩ := I.tuple hq
  obtain ⟨j, h1, h2, h3, h4, h5⟩ := atI_get he
  obtain ⟨w, ew, rw'⟩ := r.get h2
  have hl := r.length
  have hn := line63
  have fin : EP X pins σ Q w s := ⟨z, H, I, rw', q⟩
  exact subscriptTail_builtinR (x := w) pl.typeIs slot_tuple_getitem.lookup
    (getItem_tuple (j := j) (Q := fun r s' => r = w ∧ EP X pins σ Q r s') pl (by omega) (by omega) (by rw [List.size_toArray, ← hl]; exact h1) (by simpa using ew) ⟨rfl, fin⟩) hs
def rIx (K : PySem.W.Frag) : R2 := fun x y H Q => rIxL K x y H Q ∨ rIxT K x y H Q ∨ rIxS x y H Q
theorem Inv.lstUpd {pins : List (Addr × Obj)} {σ : St} {H : Hp} {s : Shared} {p : Addr} {xs ys : List V} {its its' : List Value} {n n' : Nat} {f : Obj → Obj} (I : Inv X pins σ H s) (h : H p = some (.lst xs))
    (ho : s.heap.get? p = some { cls := .type "list", data := .seq its.toArray n }) (hf : f { cls := .type "list", data := .seq its.toArray n } = { cls := .type "list", data := .seq its'.toArray n' }) (r : Vals ys its') (hz : ys.length ≤ sizeLine) (t : Nat) :
    Inv X pins σ (upd H p (.lst ys)) { s with heap := s.heap.update p f, toks := t } := by
  have e : (s.heap.update p f).get? p = some { cls := .type "list", data := .seq its'.toArray n' } := by
    rw [Heap.get?_update_self f ho (by rw [hf] <;> rfl), hf]
  refine I.write (x := p) (e := p) (by rw [h]; trivial) (.inl rfl) (fun b u hb q => (Heap.get?_update_other _ _ (Ne.symm hb)).trans q) ⟨_, e⟩ ?_
  exact ⟨hz, its', n', r, e⟩
def rSetL : V → V → V → Hp → (Hp → Prop) → Prop := fun o i v H Q => ∃ p xs k j, o = .ref p ∧ i = .int k ∧ H p = some (.lst xs) ∧ ixN xs.length k = some j ∧ Q (upd H p (.lst (xs.set j v)))
def rSlL (K : PySem.W.Frag) : V → Option Int → Option Int → Hp → VK → Prop := fun x lo hi H Q => ∃ a xs, x = .ref a ∧ SqL K H a xs ∧ ∀ p, H p = none → Q (.ref p) (upd H p (.lst (cutV xs lo hi)))
def flatV : V → Bool
  | .non => true
  | .bl _ => true
  | .int _ => true
  | .str _ => true
  | _ => false

def eqV : V → V → Bool
  | .non, .non => true
  | .bl a, .bl b => a == b
  | .bl a, .int b => (if a then 1 else 0) == b
  | .int a, .bl b => a == (if b then 1 else 0)
  | .int a, .int b => a == b
  | .str a, .str b => a == b
  | _, _ => false
theorem eqAt_V {A : Around} {s : Shared} {y x : V} {u v : Value} (ry : RelV y u) (rx : RelV x v) (fy : flatV y = true) (fx : flatV x = true) : SeqAt.EqAt A s u v (eqV y x) := by
  cases y with
  | non =>
    cases ry
    cases x with
    | non => cases rx; exact SeqAt.EqAt.same _
    | bl b => cases rx; exact SeqAt.EqAt.none_bool b
    | int b => obtain ⟨t, rfl⟩ := rx; exact SeqAt.EqAt.none_int b t
    | str b => obtain ⟨t, rfl⟩ := rx; exact SeqAt.EqAt.none_str b t
    | _ => exact absurd (show false = true from fx) Bool.false_ne_true
  | bl a =>
    cases ry
    cases x with
    | non => cases rx; exact SeqAt.EqAt.bool_none a
    | bl b => cases rx; exact SeqAt.EqAt.bool_bool a b
    | int b => obtain ⟨t, rfl⟩ := rx; exact SeqAt.EqAt.bool_int a b t
    | str b => obtain ⟨t, rfl⟩ := rx; exact SeqAt.EqAt.bool_str a b t
    | _ => exact absurd (show false = true from fx) Bool.false_ne_true
  | int a =>
    obtain ⟨t', rfl⟩ := ry
    cases x with
    | non => cases rx; exact SeqAt.EqAt.int_none a t'
    | bl b => cases rx; exact SeqAt.EqAt.int_bool a t' b
    | int b => obtain ⟨t, rfl⟩ := rx; exact SeqAt.EqAt.int_int a t' b t
    | str b => obtain ⟨t, rfl⟩ := rx; exact SeqAt.EqAt.int_str a t' b t
    | _ => exact absurd (show false = true from fx) Bool.false_ne_true
  | str a =>
    obtain ⟨t', rfl⟩ := ry
    cases x with
    | non => cases rx; exact SeqAt.EqAt.str_none a t'
    | bl b => cases rx; exact SeqAt.EqAt.str_bool a t' b
    | int b => obtain ⟨t, rfl⟩ := rx; exact SeqAt.EqAt.str_int a t' b t
    | str b => obtain ⟨t, rfl⟩ := rx; exact SeqAt.EqAt.str_str a t' b t
    | _ => exact absurd (show false = true from fx) Bool.false_ne_true
  | _ => exact absurd (show false = true from fy) Bool.false_ne_true

def eqU (x : V) (u : Value) : Bool := match u with
  | .none => eqV .non x
  | .bool b => eqV (.bl b) x
  | .int i _ => eqV (.int i) x
  | .str z _ => eqV (.str z) x
  | _ => false
def inV (x : V) (xs : List V) : Bool := xs.any fun y => eqV y x

def rIn (K : PySem.W.Frag) (neg : Bool) : R2 := fun x y H Q => ∃ p xs, y = .ref p ∧ (SqL K H p xs ∨ SqT K H p xs) ∧ flatV x = true ∧ xs.all flatV = true ∧ Q (.bl (if neg then !inV x xs else inV x xs)) H
theorem call_len_seq : CallR X (.builtin "len") (fun xs H Q => ∃ p ys, xs = [.ref p] ∧ (SqL X.K H p ys ∨ SqT X.K H p ys) ∧ Q (.int ys.length) H) := by
  intro pins s σ H xs us Q I r h
  obtain ⟨p, ys, rfl, hq, q⟩ := h
  obtain ⟨u, rfl, rx⟩ := vals1 r
  cases rx
  have hn := line63
  rcases hq with hq | hq
  · obtain ⟨its, r', pl, hz⟩ := I.list hq
    have hlen := r'.length
    exact Calls.call_len_list pl.isList (by simp only [List.size_toArray] <;> omega) ⟨.int ys.length, H, I.tok _, ⟨s.toks + 1, by rw [List.size_toArray, hlen]⟩, q⟩
  · obtain ⟨its, r', pl, hz⟩ := I.tuple hq
    have hlen := r'.length
    exact len_tuple pl (by simp only [List.size_toArray] <;> omega) ⟨.int ys.length, H, I.tok _, ⟨s.toks + 1, by rw [List.size_toArray, hlen]⟩, q⟩
theorem call_tuple_of : CallR X (.type "tuple") (fun xs H Q => ∃ p ys, xs = [.ref p] ∧ ((SqL X.K H p ys ∧ ∀ l, H l = none → Q (.ref l) (upd H l (.tup ys))) ∨ (SqT X.K H p ys ∧ Q (.ref p) H))) := by
  intro pins s σ H xs us Q I r h
  obtain ⟨p, ys, rfl, h⟩ := h
  obtain ⟨u, rfl, rx⟩ := vals1 r
  cases rx
  rcases h with ⟨hq, q⟩ | ⟨hq, q⟩
  · obtain ⟨its, r', pl, hz⟩ := I.list hq
    have hlen := r'.length
    refine call_tuple_list pl.isList (fun h' kp => ?_) (by simp only [List.size_toArray] <;> omega)
    have I1 : Inv X pins σ H { s with heap := h' } := I.kept (t' := s.toks) kp
    have I2 : Inv X pins σ (upd H h'.objs.size (.tup ys)) { s with heap := h'.push { cls := .type "tuple", data := .seq its.toArray } } :=
      I1.laid (t' := s.toks) (fun b o e => Heap.get?_push_of_some _ e) (Nat.le_refl _) (show ObjOk X.prog X.w _ _ _ (.tup ys) from ⟨hz, its, r', IsTup.new _ _⟩)
    exact ⟨.ref h'.objs.size, _, I2, rfl, q _ (I1.hok.fresh (Nat.le_refl _))⟩
  · obtain ⟨its, r', pl, hz⟩ := I.tuple hq
    exact call_tuple_same pl ⟨.ref p, H, I, rfl, q⟩



def tyV (K : PySem.W.Frag) (T : String) (x : V) (H : Hp) : Prop := match x with
  | .str _ => T = "str"
  | .int _ => T = "int"
  | .ref p => (T = "list" ∧ ∃ xs, SqL K H p xs) ∨ (T = "tuple" ∧ ∃ o, K.lookup p = some o ∧ o.cls = .type "tuple" ∧ o.dict = none) ∨
      (T = "dict" ∧ ((∃ kvs, H p = some (.dK kvs)) ∨ ∃ kvs, H p = some (.dT kvs))) ∨ (T = "set" ∧ ∃ S n, H p = some (.set S n))
  | _ => False
theorem tyV_is {pins : List (Addr × Obj)} {σ : St} {H : Hp} {s : Shared} {T : String} {x : V} {v : Value} (I : Inv X pins σ H s) (r : RelV x v) (ty : tyV X.K T x H) :
    s.TypeIs v T ∧ ∀ a, v = .ref a → ∃ ob, s.heap.get? a = some ob ∧ ob.dict = none := by
  cases x with
  | str z =>
    obtain ⟨t, rfl⟩ := r
    cases (show T = "str" from ty)
    exact ⟨typeIs_str s z t, fun _ e => nomatch e⟩
  | int i =>
    obtain ⟨t, rfl⟩ := r
    cases (show T = "int" from ty)
    exact ⟨typeIs_int s i t, fun _ e => nomatch e⟩
  | ref p =>
    cases r
    rcases ty with ⟨rfl, xs, hq⟩ | ⟨rfl, o, hk, hc, hd⟩ | ⟨rfl, hk⟩ | ⟨rfl, S, n, hk⟩
    · obtain ⟨its, _, pl, _⟩ := I.list hq
      refine ⟨pl.isList.typeIs, fun a e => ?_⟩
      cases e
      obtain ⟨o, n, e, c, hd, _⟩ := pl
      exact ⟨o, e, hd⟩
    · refine ⟨⟨o, I.kIn p o hk, hc⟩, fun a e => ?_⟩
      cases e
      exact ⟨o, I.kIn _ o hk, hd⟩
    · have z : ∃ o, s.heap.get? p = some o ∧ o.ExactDict := by
        rcases hk with ⟨kvs, hk⟩ | ⟨kvs, hk⟩
        · obtain ⟨_, _, _, _, o, _, _, e, ex, _⟩ := I.hok p _ hk
          exact ⟨o, e, ex⟩
        · obtain ⟨_, _, _, _, o, _, _, e, ex, _⟩ := I.hok p _ hk
          exact ⟨o, e, ex⟩
      obtain ⟨o, e, ex⟩ := z
      refine ⟨⟨o, e, ex.1⟩, fun a e2 => ?_⟩
      cases e2
      exact ⟨o, e, ex.2.1⟩
    · obtain ⟨o, _, _, _, e, ex, _⟩ := I.hok p _ hk
      refine ⟨⟨o, e, ex.1⟩, fun a e2 => ?_⟩
      cases e2
      exact ⟨o, e, ex.2.1⟩
  | _ => exact False.elim ty
def tBM0 (K : PySem.W.Frag) (T : String) (r : V → List V → Hp → VK → Prop) (to : TE) : TE := fun σ H Q => to σ H fun x H1 => tyV K T x H1 ∧ r x [] H1 Q
def tBM (K : PySem.W.Frag) (T : String) (r : V → List V → Hp → VK → Prop) (to : TE) (t : TA) : TE := fun σ H Q => to σ H fun x H1 => tyV K T x H1 ∧ t σ H1 fun xs H2 => r x xs H2 Q
variable {o e : Expr} {es : List Expr} {to : TE} {t : TA} {name : Str} {apos cpos : Pos} {T id : String} {r : V → List V → Hp → VK → Prop}
theorem pe_bm (pa : PlainAttrs T) (slot : Slot T name id) (hty : typeOf (.builtin id) = pure (.type "method_descriptor")) (hm : MtR X id r) (ho : PE X o to) (ha : PA X (e :: es) t)
    (hbase : attributeBase o name X.env (eval o X.env) = eval o X.env := by rfl)
    (hfew : ((backTo cpos (starEach (e :: es) X.env)).all (fun x => !x.1) && (backToKw cpos (keywordEach [] X.env)).all (fun x => x.1.isSome)
      && decide ((e :: es).length + ([] : List Keyword).length + (if ([] : List Keyword).isEmpty then 0 else 1) < 30)) = true := by rfl)
    (hline : (apos.endLine == cpos.line) = true := by rfl) (hs : starEach (e :: es) X.env = (false, eval e X.env) :: starEach es X.env := by rfl) (hplain : (backTo cpos (starEach es X.env)).any (·.1) = false := by rfl) :
    PE X (.Call (.Attribute o name apos) (e :: es) [] cpos) (tBM X.K T r to t) := by
  intro pins s σ H Q I h
  refine wpAny_Call_method_late hbase hfew hline rfl (thn (ho pins s σ H _ I h) fun v s1 ⟨x, H1, I1, r1, ty, q1⟩ => ?_)
  obtain ⟨h1, h2⟩ := tyV_is I1 r1 ty
  refine ⟨T, id, pa, slot, hty, h1, h2, ?_⟩
  have hA := ha cpos pins s1 σ H1 _ I1 q1
  rw [hs] at hA ⊢
  refine Calls.callWith_builtin (by show (false || (backTo cpos (starEach es X.env)).any (·.1)) = false; rw [hplain] <;> rfl) (Calls.evalArgs_plain ?_)
  exact thn hA fun us s2 ⟨vs, H2, I2, r2, q2⟩ => hm pins s2 σ H2 x vs v us Q I2 r1 r2 q2

end
end L2

namespace L2
open PySem PySem.Spec PyProof.Rows

def MtM (X : Cx) (id : String) (r : V → List V → Hp → VK → Prop) : Prop :=
  ∀ (pins : List (Addr × Obj)) (s : Shared) (σ : St) (H : Hp) (x : V) (xs : List V) (v : Value) (us : List Value) (Q : VK), Inv X pins σ H s → RelV x v → Vals xs us → r x xs H Q →
    wpAny (model X.prog X.w) X.A (call (.builtin id) (v :: us)) (EP X pins σ Q) X.xe s


theorem Vals.one : ∀ {x : V} {us : List Value}, Vals [x] us → ∃ u, us = [u] ∧ RelV x u
  | _, _, .cons r .nil => ⟨_, rfl, r⟩
theorem Vals.rep {xs : List V} {us : List Value} (h : Vals xs us) : ∀ k : Nat, Vals (List.replicate k xs).flatten (List.replicate k us).flatten
  | 0 => .nil
  | k + 1 => by
    rw [List.replicate_succ, List.replicate_succ, List.flatten_cons, List.flatten_cons]
    exact Vals.append h (Vals.rep h k)
theorem foldl_rep (its : List Value) : ∀ (k : Nat) (acc : List Value),
    List.foldl (fun x1 x2 => x1 ++ x2) acc.toArray (List.replicate k its.toArray) = (acc ++ (List.replicate k its).flatten).toArray
  | 0, acc => by simp
  | k + 1, acc => by
    have e : acc.toArray ++ its.toArray = (acc ++ its).toArray := by simp
    have e2 : (acc ++ its) ++ (List.replicate k its).flatten = acc ++ (List.replicate (k + 1) its).flatten := by
      rw [List.replicate_succ, List.flatten_cons, List.append_assoc]
    rw [← e2, ← foldl_rep its k (acc ++ its), ← e, List.replicate_succ, List.foldl_cons]

section
variable {X : Cx} {pins : List (Addr × Obj)} {σ : St} {H : Hp} {s : Shared} {l b : Addr} {xs ys zs : List V}


theorem Inv.lset {its its' : List Value} {n : Nat} {f : Array Value → Array Value} {t' : Nat} (I : Inv X pins σ H s) (hH : H l = some (.lst xs))
    (e : s.heap.get? l = some { cls := .type "list", data := .seq its.toArray n }) (hf : f its.toArray = its'.toArray) (hv : Vals ys its') (hz : ys.length ≤ sizeLine) :
    Inv X pins σ (upd H l (.lst ys)) { s with heap := s.heap.update l (Obj.mapSeq f), toks := t' } := by
  have q := PySem.IsL.update e f
  rw [hf] at q
  refine I.write (x := l) (e := l) (by rw [hH]; exact trivial) (.inl rfl) (fun b' u hb hu => (Heap.get?_update_other s.heap (Obj.mapSeq f) (Ne.symm hb)).trans hu) ⟨_, q⟩ ?_
  exact ⟨hz, its', _, hv, q⟩
theorem Inv.lnew {its : List Value} {t' : Nat} (I : Inv X pins σ H s) (hv : Vals ys its) (hz : ys.length ≤ sizeLine) :
    Inv X pins σ (upd H s.heap.objs.size (.lst ys)) { s with heap := s.heap.push { cls := .type "list", data := .seq its.toArray }, toks := t' } :=
  I.laid (fun _ _ q => Heap.get?_push_of_some _ q) (Nat.le_refl _) ⟨hz, its, 0, hv, Heap.get?_push_size _ rfl⟩
theorem Inv.lstM (I : Inv X pins σ H s) (hH : H l = some (.lst xs)) : xs.length ≤ sizeLine ∧ ∃ (its : List Value) (n : Nat), Vals xs its ∧ xs.length = its.length ∧ s.heap.get? l = some { cls := .type "list", data := .seq its.toArray n } := by
  obtain ⟨z, its, n, r, e⟩ := I.hok l _ hH
  exact ⟨z, its, n, r, r.length, e⟩

end

section
variable {X : Cx}


def rAppend : V → List V → Hp → VK → Prop := fun x vs H Q => ∃ l xs y, x = .ref l ∧ vs = [y] ∧ H l = some (.lst xs) ∧ xs.length < sizeLine ∧ Q .non (upd H l (.lst (xs ++ [y])))
theorem mt_append : MtM X "list.append" rAppend := by
  intro pins s σ H x vs v us Q I rx rv h
  obtain ⟨l, xs, y, rfl, rfl, hH, hz, q⟩ := h
  cases rx
  obtain ⟨u, rfl, ru⟩ := rv.one
  obtain ⟨z, its, n, r, hl, e⟩ := I.lstM hH
  refine call_meets F.slot_list_append ⟨_, e, rfl⟩ F.entry_list_append (F.args_list_append_2 _ _) (PySem.list_append l its.toArray n u (by rw [List.size_toArray]; omega)) ⟨e, ?_⟩
  refine ⟨.non, _, I.lset (its' := its ++ [u]) hH e (by simp) (r.append (.cons ru .nil)) ?_, rfl, q⟩
  rw [List.length_append, List.length_singleton]
  omega

def rExtend : V → List V → Hp → VK → Prop := fun x vs H Q => ∃ l b xs zs, x = .ref l ∧ vs = [.ref b] ∧ H l = some (.lst xs) ∧ H b = some (.lst zs) ∧ xs.length + zs.length ≤ sizeLine ∧ Q .non (upd H l (.lst (xs ++ zs)))
def rPop : V → List V → Hp → VK → Prop := fun x vs H Q => ∃ l xs y, x = .ref l ∧ vs = [] ∧ H l = some (.lst xs) ∧ xs[xs.length - 1]? = some y ∧ Q y (upd H l (.lst xs.dropLast))
def rPopAt : V → List V → Hp → VK → Prop := fun x vs H Q => ∃ l xs i k y, x = .ref l ∧ vs = [.int i] ∧ H l = some (.lst xs) ∧ -(2 ^ 63) ≤ i ∧ i < 2 ^ 63 ∧ seqIndex? i xs.length = some k ∧ xs[k]? = some y ∧ Q y (upd H l (.lst (xs.eraseIdx k)))
def rReverse : V → List V → Hp → VK → Prop := fun x vs H Q => ∃ l xs, x = .ref l ∧ vs = [] ∧ H l = some (.lst xs) ∧ Q .non (upd H l (.lst xs.reverse))
def rClear : V → List V → Hp → VK → Prop := fun x vs H Q => ∃ l xs, x = .ref l ∧ vs = [] ∧ H l = some (.lst xs) ∧ Q .non (upd H l (.lst []))
def rCat : R2 := fun x y H Q => ∃ l b xs zs, x = .ref l ∧ y = .ref b ∧ H l = some (.lst xs) ∧ H b = some (.lst zs) ∧ xs.length + zs.length ≤ sizeLine ∧ ∀ p, H p = none → Q (.ref p) (upd H p (.lst (xs ++ zs)))
def rRep : R2 := fun x y H Q => ∃ l k xs, x = .ref l ∧ y = .int k ∧ H l = some (.lst xs) ∧ -(2 ^ 63) ≤ k ∧ k < 2 ^ 63 ∧ xs.length * k.toNat ≤ sizeLine ∧
  ∀ p, H p = none → Q (.ref p) (upd H p (.lst (List.replicate k.toNat xs).flatten))
theorem len_rep {α : Type} (xs : List α) (k : Nat) : (List.replicate k xs).flatten.length = k * xs.length := by
  induction k with
  | zero => simp
  | succ k ih => rw [List.replicate_succ, List.flatten_cons, List.length_append, ih, Nat.succ_mul, Nat.add_comm]
end


section
variable {prog : Program} {w : World} {A : Around} {E : Value → Shared → Prop} {s : Shared}
end

section
variable {X : Cx}

end
end L2

namespace Att
open PySem PySem.W PySem.Calls PyProof.Rows


theorem ints_of_wellAll {P : Params} {h : Heap} : ∀ (ns : List Int) (vs : List Value), WellAll P h vs (ns.map WData.int) → IntsAre vs ns := by
  intro ns
  induction ns with
  | nil =>
    intro vs w
    rw [List.map_nil] at w
    cases w
    exact .nil
  | cons n ns ih =>
    intro vs w
    rw [List.map_cons] at w
    cases w with
    | cons a b =>
      cases a
      exact .cons _ _ (ih _ b)

theorem script_of {l : OpenLaw} {n : Nat} (hn : l.most = some n) {P : Params} {h : Heap} {args : List WData} {vals : List Value}
    (hpre : l.row.toRowW.claim.pre args = true) (hwl : WellAll P h vals args) :
    ∃ a vs ns, vals = [Value.ref a] ∧ args = [WData.list (ns.map WData.int)] ∧ h.get? a = some { cls := .type "list", data := .seq vs.toArray } ∧ IntsAre vs ns ∧ ns.length ≤ n := by
  have hsh : WShape.hasAll [] args [.list .int] = true := (pre_splitW hpre).1
  have hc : l.pre.holds [] { args := args } = true := (pre_splitW hpre).2
  obtain ⟨d, r, rfl, h1, h2⟩ := hasAllW_cons hsh
  obtain rfl := hasAllW_nil h2
  obtain ⟨xs, rfl, h3⟩ := hasW_list h1
  obtain ⟨ns, rfl⟩ := items_int h3
  have hlen : ns.length ≤ n := by
    unfold OpenLaw.pre at hc
    have h4 : (WTm.not (.lt (.lit (.int (n : Int))) (.len (.arg 0)))).holds [] { args := [.list (ns.map .int)] } = true := by
      have h4 := (holds_andW hc).1
      rw [hn] at h4
      exact h4
    have h5 := condW_of h4 (w_not (w_lt w_lit (w_len_list (w_arg rfl))))
    rw [List.length_map] at h5
    refine Nat.le_of_not_lt fun q => ?_
    have q' : (n : Int) < ((ns.length : Nat) : Int) := by omega
    first
      | (rw [decide_eq_true q'] at h5; exact absurd h5 (by decide))
      | (simp at h5; omega)
  cases hwl with
  | cons w1 w2 =>
    cases w2
    cases w1 with
    | list ho hall => exact ⟨_, _, ns, rfl, rfl, ho, ints_of_wellAll ns _ hall, hlen⟩

theorem post_true (l : OpenLaw) (args : List WData) : l.row.toRowW.claim.post args (.bool true) args = true :=
  postW_of (r := l.row.toRowW) (X := (true == true))
    (show WShape.has [] (.bool true) .bool = true by first | rfl | decide | simp [WShape.has, WShape.arms, WShape.armsAll])
    (show (WTm.eq .res (.lit (.bool true))).value [] { args := args, res := some (.bool true), after := args } = some (.bool (true == true)) from w_eq_bool (w_res rfl) w_lit) rfl


theorem attach_call {l : OpenLaw} {n : Nat} {q : Program} {loose : List Str} {XP : (Str → Option Value) → Heap → Prop} {YP : World → Heap → Prop} {d : DefRec}
    (hn : l.most = some n) (hdf : d.params.defaults = [])
    (call : ∀ (w : World) (s₀ s₁ : Shared) (mg mb : Str → Option Value) (fa : Addr) (o : Obj) (pm cd doc : Value) (a : Addr) (vs : List Value) (ns : List Int),
      Ground q loose [] XP w s₀ mg mb s₁.heap → YP w s₁.heap →
      s₁.heap.get? fa = some o → o.data = .func (docDef d.name d.params d.body d.scope pm cd doc) → s₁.heap.CodeRec cd d.name → mg d.name = some (.ref fa) →
      s₁.heap.get? a = some { cls := .type "list", data := .seq vs.toArray } → IntsAre vs ns → ns.length ≤ n → s₁.gens = #[] →
      codeAny (model l.prog w) callerA (.call (.ref fa) ⟨[.ref a], []⟩) (fun r s' => r = .ok (.ret (.bool true)) ∧ OldK s₁.heap s'.heap ∧ s'.os = s₁.os ∧ AllBare s'.gens) s₁) :
    WalkO q loose XP YP l.row.toRowW d [] (fun f vs => PySem.call f vs) := by
  intro w s₀ s₁ mg mb G Y fa o pm cd doc dV kV ho hd hcd hD hmg hg args vals as hpre hlay hrd hwl hlo
  obtain rfl : dV = .none := Dflts.none hD hdf
  obtain rfl : kV = .none := Dflts.noKw hD
  obtain ⟨a, vs, ns, rfl, rfl, hobj, hints, hlen⟩ := script_of hn hpre hwl
  refine enter_call (codeAny_mono (call w s₀ s₁ mg mb fa o pm cd doc a vs ns G Y ho (fd_plain hd) hcd hmg hobj hints hlen hg) fun r s' hq => ?_)
  obtain ⟨rfl, h2, h3, h4⟩ := hq
  exact ⟨.inl ⟨.bool true, .bool true, [], rfl, fun _ => rfl, .bool true, post_true l _, fun _ => ⟨List.Pairwise.nil, fun _ hm => (nomatch hm)⟩⟩, h2, h3, h4⟩


section
variable {prog : Program} {w : World} {A : Around} {E : Value → Shared → Prop} {s : Shared} {K : Frag}


def noObjs (h : Heap) : Heap := { h with objs := #[] }
def ledger (h : Heap) (L d : Addr) : List (Addr × Obj) := (List.range h.objs.size).filterMap fun a => if a = L ∨ a = d then none else (h.get? a).map fun o => (a, o)
end
end Att

namespace L2
open PySem PySem.Spec PyProof.Rows

theorem vals_ints : ∀ {vs : List Value} {ns : List Int}, IntsAre vs ns → Vals (ns.map V.int) vs
  | _, _, .nil => .nil
  | _, _, .cons n t h => .cons ⟨t, rfl⟩ (vals_ints h)


def Only (H : Hp) : Prop := ∀ b, H b = none ∨ ∃ o xs, H b = some (.frz o (.lst xs))


theorem law_call {P : Program} {w : World} {K : PySem.W.Frag} {mg mb : Str → Option Value} {CX : CXT} {k : Nat} {fa a : Addr} {fd : FuncData} {x : Str} {sp : Sp} {s₁ : Shared} {vs : List Value} {ns : List Int}
    (KX : K.In s₁.heap) (hns : s₁.heap.Ns mainGlobals mg) (hb : s₁.heap.Ns builtinsNs mb) (hbb : ∀ x : Str, x ≠ "__name__" → mb x = bootBuiltins x) (hlim : s₁.heap.NoLimit) (hg : s₁.gens = #[])
    (ha : s₁.heap.get? a = some { cls := .type "list", data := .seq vs.toArray }) (hi : IntsAre vs ns) (hl : ns.length ≤ sizeLine) (hr : Room k callerA)
    (F : ∀ base : Heap, K.In base → base.Ns mainGlobals mg → FnOk P w K mg base CX k fa fd [x] sp) (hbind : ∀ (s : Shared) (u : Value), BindsTo s fd ⟨[u], []⟩ [(x, u)])
    (hsp : ∀ H : Hp, Only H → SqL K H a (ns.map V.int) → sp [.ref a] H (fun v _ => v = .bl true) fun _ _ _ => False)
    (hCX : ∀ H e s', CX [] H s₁ (fun _ _ _ => False) e s' → False) :
    codeAny (model P w) callerA (.call (.ref fa) ⟨[.ref a], []⟩) (fun r s' => r = .ok (.ret (.bool true)) ∧ OldK s₁.heap s'.heap ∧ s'.os = s₁.os ∧ AllBare s'.gens) s₁ := by
  have rv := vals_ints hi
  have lenV := hi.length
  -- from an abstract heap in which nothing but the script may be tracked
  have core : ∀ H : Hp, Only H → SqL K H a (ns.map V.int) → HOk P w H s₁.heap → (∀ b, H b ≠ none → b = a) → (H a ≠ none → K.lookup a = none) →
      codeAny (model P w) callerA (.call (.ref fa) ⟨[.ref a], []⟩) (fun r s' => r = .ok (.ret (.bool true)) ∧ OldK s₁.heap s'.heap ∧ s'.os = s₁.os ∧ AllBare s'.gens) s₁ := by
    intro H hO hS hok hA hK
    have base_of : ∀ {b : Addr} {o : Obj}, s₁.heap.get? b = some o → H b = none → (hidT s₁.heap H).get? b = some o := fun e n => hidT_get e n
    have noA : ∀ {b : Addr} {o : Obj} {es : Array DictEntry} {ep : Nat}, s₁.heap.get? b = some o → o.data = .dict es ep → H b = none := fun {b o es ep} e d => by
      cases q : H b with
      | none => rfl
      | some u =>
        have e' : b = a := hA b (by rw [q]; simp)
        subst e'
        rw [ha] at e; cases e
        have d' : Data.seq vs.toArray _ = Data.dict es ep := d
        cases d'
    have nsK : ∀ {b : Addr} {m : Str → Option Value}, s₁.heap.Ns b m → (hidT s₁.heap H).Ns b m := fun {b m} ⟨o, es, ep, e, d, r⟩ => ⟨o, es, ep, base_of e (noA e d), d, r⟩
    have hKb : K.In (hidT s₁.heap H) := fun b o e => base_of (KX b o e) (by
      cases q : H b with
      | none => rfl
      | some u =>
        have e' : b = a := hA b (by rw [q]; simp)
        subst e'
        rw [hK (by rw [q]; simp)] at e; cases e)
    have hM : Mod K mg (hidT s₁.heap H) := ⟨hKb, nsK hns, ⟨mb, nsK hb, hbb⟩, let ⟨mc, h1, h2⟩ := hlim; ⟨mc, nsK h1, h2⟩⟩
    have e0 : Env0 P w K mg (hidT s₁.heap H) callerA [] s₁ H := ⟨rfl, hM, fun b o e => of_hidT e, Nat.le_of_eq (hidT_size _ _), trivial, fun b hb => absurd (show b ∈ ([] : List Addr) from hb) (by simp), hok, .of_eq hg⟩
    refine codeAny_mono ((F _ hKb (nsK hns)).run callerA [] s₁ H ⟨[.ref a], []⟩ [.ref a] [.ref a] _ _ hr e0 (hbind s₁ (.ref a)) (.cons rfl .nil) (hsp H hO hS)) fun r s' h => ?_
    cases r with
    | error e => exact (hCX H e s' h).elim
    | ok fl =>
      cases fl with
      | next => exact False.elim h
      | brk => exact False.elim h
      | cont => exact False.elim h
      | ret u =>
        obtain ⟨v, H', os, bare, un, hok', r', q⟩ := h
        have q' : v = .bl true := q
        subst q'
        obtain rfl : u = Value.bool true := r'
        refine ⟨rfl, OldK.of_keep fun b o e => ?_, os, bare⟩
        cases q : H b with
        | none => exact un.keep b o e q (by intro z; exact absurd (show b ∈ ([] : List Addr) from z) (by simp)) (by simp)
        | some u =>
          rcases hO b with z | ⟨ob, xs, z⟩
          · rw [q] at z; cases z
          · have z2 := un.frzs b ob _ z
            obtain ⟨e1, _⟩ := hok b _ z
            obtain ⟨e2, _⟩ := hok' b _ z2
            rw [e] at e1; cases e1
            exact e2
  cases hk : K.lookup a with
  | some o =>
    -- the script is one of the module's own objects
    have e := KX a o hk
    rw [ha] at e
    cases e
    refine core (fun _ => none) (fun _ => .inl rfl) (.inr ⟨_, vs.toArray, _, hk, rfl, rfl, rfl, by rw [List.size_toArray, lenV]; exact hl, by simpa using rv⟩) (fun b u z => by have z' : (none : Option HO) = some u := z; cases z') (fun b z => absurd rfl z) fun z => absurd rfl z
  | none =>
    refine core (fun b => if b = a then some (.frz { cls := .type "list", data := .seq vs.toArray } (.lst (ns.map V.int))) else none) (fun b => ?_) (.inl (.inr ⟨{ cls := .type "list", data := .seq vs.toArray }, if_pos rfl⟩)) (fun b u z => ?_) (fun b z => ?_) fun _ => hk
    · by_cases hb : b = a
      · exact .inr ⟨_, _, if_pos hb⟩
      · exact .inl (if_neg hb)
    · by_cases hb : b = a
      · have z' := (if_pos hb).symm.trans z
        cases z'
        subst hb
        exact ⟨ha, by rw [List.length_map]; exact hl, vs, _, rv, ha⟩
      · have z' := (if_neg hb).symm.trans z
        cases z'
    · by_cases hb : b = a
      · exact hb
      · exact absurd (if_neg hb) z
end L2

namespace L2
open PySem PySem.Spec PyProof.Rows

abbrev KOf {K : PySem.W.Frag} {h : Heap} (_ : K.In h) : PySem.W.Frag := K


theorem walk_of {l : PySem.W.OpenLaw} {n k : Nat} {q : Program} {loose : List Str} {XP : (Str → Option Value) → Heap → Prop} {YP : World → Heap → Prop} {d : DefRec} {K : Params → PySem.W.Frag} {CX : World → CXT} {sp : World → Sp} {x : Str}
    (hn : l.most = some n) (hn2 : n ≤ sizeLine) (hdf : d.params.defaults = []) (hr : Room k callerA)
    (hY : ∀ (w : World) (h : Heap), YP w h → (K w.params).In h)
    (F : ∀ (w : World) (mg : Str → Option Value) (fa : Addr) (h : Heap), (K w.params).In h → h.Ns mainGlobals mg → mg d.name = some (.ref fa) →
      ∃ fd : FuncData, (∀ (s : Shared) (u : Value), BindsTo s fd ⟨[u], []⟩ [(x, u)]) ∧
        ∀ base : Heap, (K w.params).In base → base.Ns mainGlobals mg → FnOk l.prog w (K w.params) mg base (CX w) k fa fd [x] (sp w))
    (hsp : ∀ (w : World) (H : Hp) (a : Addr) (ns : List Int), ns.length ≤ n → Only H → SqL (K w.params) H a (ns.map V.int) → sp w [.ref a] H (fun v _ => v = .bl true) fun _ _ _ => False)
    (hCX : ∀ (w : World) (H : Hp) (s : Shared) (e : Value) (s' : Shared), CX w [] H s (fun _ _ _ => False) e s' → False) :
    PySem.W.WalkO q loose XP YP l.row.toRowW d [] (fun f vs => PySem.call f vs) := by
  refine Att.attach_call hn hdf fun w s₀ s₁ mg mb fa o pm cd doc a vs ns G Y ho hd hcd hmg hobj hints hlen hg => ?_
  have KX := hY w _ Y
  obtain ⟨fd, hb, hF⟩ := F w mg fa _ KX G.T.g hmg
  exact law_call KX G.T.g G.T.b G.T.builtins G.T.nolimit hg hobj hints (Nat.le_trans hlen hn2) hr hF hb (fun H hO hS => hsp w H a ns hlen hO hS) fun H e s' => hCX w H s₁ e s'

end L2




namespace L2
open PySem PySem.Spec PyProof.Rows



def inClass (s : Stmt) (j : Nat) : Stmt := match s with
  | .ClassDef _ _ _ body _ _ _ _ _ _ _ => body.getD j (.Pass ⟨0, 0, 0, 0⟩)
  | _ => .Pass ⟨0, 0, 0, 0⟩
def defArgs (s : Stmt) : Arguments := match s with
  | .FunctionDef _ a _ _ _ _ _ _ _ _ => a
  | _ => { posonlyargs := [], args := [], vararg := none, kwonlyargs := [], kw_defaults := [], kwarg := none, defaults := [] }
def defBody (s : Stmt) : List Stmt := match s with
  | .FunctionDef _ _ b _ _ _ _ _ _ _ => b
  | _ => []
def defScope (s : Stmt) : Scope := match s with
  | .FunctionDef _ _ _ _ _ _ sc _ _ _ => sc
  | _ => { kind := .function, names := [], isGenerator := false, isCoroutine := false }


abbrev CX0 : CXT := fun _ _ _ _ _ _ => False
abbrev E0 : XK := fun _ _ _ => False
theorem pass0 {X : Cx} : Passes CX0 X E0 := fun _ _ _ _ _ _ _ h => h.elim


structure Fun (K : PySem.W.Frag) (x qual : Str) (st : Stmt) (f : Addr) (fd : FuncData) : Prop where
  ex : ∃ (oc : Value) (od : Option Addr) (kV doc pm : Value) (an : Option Addr) (cdv ct : Value) (osl : Array (Option Value)),
    fd = PySem.W.fnOf x qual (defArgs st) (defBody st) (defScope st) .none kV doc pm an cdv ct ∧ K.lookup f = some ⟨oc, od, .func fd, osl⟩ ∧ PySem.W.codeIn K cdv qual = true
  kp : PySem.W.keepIn K (.ref f) = true
section
variable {P : Program} {w : World} {K : PySem.W.Frag} {mg : Str → Option Value} {base : Heap}

theorem Fun.ok {x qual : Str} {st : Stmt} {f : Addr} {fd : FuncData} {N ps : List Str} {k : Nat} {sp : Sp} (F : Fun K x qual st f fd) (S : FnScope N ps (defScope st)) (len : ∀ vs H Q E, sp vs H Q E → vs.length = ps.length)
    (hbody : ∀ (cdv : Value) (A : Around) (outer : List Env) (s : Shared) (H : Hp) (vs : List V) (Q : VK) (E : XK), Room k (A.deeper (envOfC qual (defScope st) s.heap.objs.size f cdv)) → sp vs H Q E →
      ∃ t, PSs (cxOf CX0 P w K mg base N qual (defScope st) f cdv A outer s H E).nox (defBody st) t ∧ t { nx := fun _ H' => Q .non H', rt := Q } (start N vs) H) : FnOk P w K mg base CX0 (k + 1) f fd ps sp := by
  obtain ⟨oc, od, kV, doc, pm, an, cdv, ct, osl, rfl, lk, hcd⟩ := F.ex
  refine fn_of lk hcd S len fun A outer s H vs Q E hr hsp => ?_
  obtain ⟨t, h, q⟩ := hbody cdv A outer s H vs Q E hr hsp
  exact ⟨t, h.nox, q⟩

theorem Fun.binds {x qual : Str} {st : Stmt} {f : Addr} {fd : FuncData} {ps : List Str} (F : Fun K x qual st f fd)
    (h : ∀ (kV doc pm : Value) (an : Option Addr) (cdv ct : Value) (us : List Value), us.length = ps.length → bindArgs (PySem.W.fnOf x qual (defArgs st) (defBody st) (defScope st) .none kV doc pm an cdv ct) ⟨us, []⟩ = pure (ps.zip us)) : Binds K fd ps [] := by
  obtain ⟨oc, od, kV, doc, pm, an, cdv, ct, osl, rfl, lk, hcd⟩ := F.ex
  exact .all (h kV doc pm an cdv ct)
theorem fun_mk {x qual : Str} {st : Stmt} {f : Addr} {oc : Value} {od an : Option Addr} {osl : Array (Option Value)} {kV doc pm cdv ct : Value} (l : K.lookup f = some ⟨oc, od, .func (PySem.W.fnOf x qual (defArgs st) (defBody st) (defScope st) .none kV doc pm an cdv ct), osl⟩)
    (c : PySem.W.codeIn K cdv qual = true) (k : PySem.W.keepIn K (.ref f) = true) : Fun K x qual st f (PySem.W.fnOf x qual (defArgs st) (defBody st) (defScope st) .none kV doc pm an cdv ct) := ⟨⟨oc, od, kV, doc, pm, an, cdv, ct, osl, rfl, l, c⟩, k⟩
end
theorem hu_of {A : Around} {k : Nat} (hr : Room k A) : A.units + 1 < cLine := Nat.lt_of_le_of_lt (Nat.add_le_add_left (by decide : 1 ≤ 64) _) hr.units
theorem small1000 {n : Nat} (h : n ≤ 1000) : n < sizeLine := Nat.lt_of_le_of_lt h (by decide)


section
variable {X : Cx}
theorem pv (i : Nat) {x : Str} {pos : Pos} (hN : X.N[i]? = some x := by rfl) (hv : Vis X.env.scope x := by first | exact Or.inl rfl | exact Or.inr (Or.inl rfl) | exact Or.inr (Or.inr rfl)) (hd : (x == ("__debug__" : Str)) = false := by decide)
    (hcd : (x == ("__classdict__" : Str)) = false := by decide) : PE X (.Name x pos) (tVar i) := pe_var hN hv hd hcd
end


theorem iteF {A B : Prop} (h : B) : if false = true then A else B := by
  rw [if_neg Bool.false_ne_true]
  exact h
theorem iteT {A B : Prop} (h : A) : if true = true then A else B := by
  rw [if_pos rfl]
  exact h
theorem ite2 {c A B : Prop} [Decidable c] (h1 : c → A) (h2 : ¬ c → B) : if c then A else B := by
  by_cases h : c
  · rw [if_pos h]
    exact h1 h
  · rw [if_neg h]
    exact h2 h
def Same (H H' : Hp) : Prop := ∀ b o, H b = some o → H' b = some o
theorem Same.refl (H : Hp) : Same H H := fun _ _ h => h
theorem Same.trans {H H1 H2 : Hp} (a : Same H H1) (b : Same H1 H2) : Same H H2 := fun c o h => b c o (a c o h)
theorem Same.free {H H' : Hp} (e : Same H H') {l : Addr} (h : H' l = Option.none) : H l = Option.none := by
  cases q : H l with
  | none => rfl
  | some o =>
    rw [e l o q] at h
    cases h
theorem Same.seq {K : PySem.W.Frag} {H H' : Hp} {a : Addr} {xs : List V} (e : Same H H') (h : SqL K H a xs) : SqL K H' a xs := by
  rcases h with (h | ⟨o, h⟩) | h
  · exact .inl (.inl (e _ _ h))
  · exact .inl (.inr ⟨o, e _ _ h⟩)
  · exact .inr h

end L2
set_option maxHeartbeats 4000000
namespace L2
open PySem PySem.Spec PyProof.Rows


section
variable {prog : Program} {w : World} {A : Around} {R : Result → Shared → Prop} {s : Shared}
theorem comp_loop {elt target iter : Expr} {ifs : List Expr} {scope : Scope} {pos : Pos} {it acc : Value} {env : Env} (I : Nat → Shared → Prop)
    (turn : ∀ n s, I n s → wpAny (model prog w) A (pyNext it) (fun r s1 => match r with
      | none => R (.ok .next) s1
      | some v => wpAny (model prog w) A (letOwnedTupleGo target it v) (fun _ s1' => wpAny (model prog w) A (assign target env v) (fun _ s2 =>
          wpAny (model prog w) A (forIn ifs true fun c r => if r = true then do let ok ← isTrue c env (eval c env); pure (ForInStep.yield ok) else pure (ForInStep.yield r)) (fun ok s3 =>
            if ok = true then wpAny (model prog w) A (eval elt env) (fun x s4 =>
              wpAny (model prog w) A (call (.builtin "list.append") [acc, x]) (fun _ s5 => ∃ m, m < n ∧ I m s5) (fun _ _ => False) s4) (fun _ _ => False) s3
            else ∃ m, m < n ∧ I m s3) (fun _ _ => False) s2) (fun _ _ => False) s1') (fun _ _ => False) s1) (fun _ _ => False) s)
    (n : Nat) (h : I n s) :
    codeAny (model prog w) A (.compLoop (.ListComp elt [⟨target, iter, ifs, 0⟩] scope pos) 0 it acc env) R s := by
  refine codeAny_loop rfl I (fun n s hI => ?_) n h
  show wpAny _ A ((compTurn (.ListComp elt [⟨target, iter, ifs, 0⟩] scope pos) 0 it acc env).onRaise (fun x => do noteFrame x env; theTreesLotGoes x)) _ _ s
  refine wpAny_noted ?_
  rw [compTurn_list]
  refine wpAny_bind (wpAny_standAt (wpAny_bind (wpAny_mono (turn n s hI) (fun r s1 h1 => ?_) fun _ _ f => f.elim)))
  cases r with
  | none => exact wpAny_pure h1
  | some v =>
    refine wpAny_bind (wpAny_mono h1 (fun _ s1' h1' => ?_) fun _ _ f => f.elim)
    refine wpAny_bind (wpAny_mono h1' (fun _ s2 h2 => wpAny_bind (wpAny_mono h2 (fun ok s3 h3 => ?_) fun _ _ f => f.elim)) fun _ _ f => f.elim)
    cases ok with
    | false => exact wpAny_pure ⟨rfl, h3⟩
    | true =>
      exact wpAny_bind (wpAny_bind (wpAny_mono h3 (fun x s4 h4 => wpAny_bind (wpAny_mono h4 (fun _ s5 h5 => wpAny_pure (wpAny_pure ⟨rfl, h5⟩)) fun _ _ f => f.elim)) fun _ _ f => f.elim))
end


def clOf (env : Env) : List (Str × NameKind) → List (Str × Addr) → List (Str × Addr)
  | [], cs => cs
  | (n, k) :: r, cs => clOf env r (if (k == NameKind.free) = true then (match env.cells.lookup n with | some a => (n, a) :: cs | none => cs) else cs)
theorem closure_loop {env : Env} {f : Str × NameKind → List (Str × Addr) → Sem (ForInStep (List (Str × Addr)))}
    (hf : ∀ n k cs, f (n, k) cs = if (k == NameKind.free) = true then (do let a ← cellOf env n; pure (.yield ((n, a) :: cs))) else pure (.yield cs)) :
    ∀ (l : List (Str × NameKind)) (cs : List (Str × Addr)), (∀ y ∈ l, y.2 = .free → ∃ c, env.cells.lookup y.1 = some c) → forIn l cs f = pure (clOf env l cs)
  | [], cs, _ => by rw [List.forIn_nil]; rfl
  | (n, k) :: r, cs, h => by
    have hr : ∀ y ∈ r, y.2 = .free → ∃ c, env.cells.lookup y.1 = some c := fun y hy => h y (List.mem_cons_of_mem _ hy)
    rw [List.forIn_cons, hf]
    unfold clOf
    by_cases hk : (k == NameKind.free) = true
    · obtain ⟨c, hc⟩ := h (n, k) List.mem_cons_self (by simpa using hk)
      have hc' : env.cells.lookup n = some c := hc
      rw [if_pos hk, if_pos hk]
      simp only [cellOf, hc', pure_bind]
      exact closure_loop hf r _ hr
    · rw [if_neg hk, if_neg hk, pure_bind]
      exact closure_loop hf r _ hr
theorem closure_eq {env : Env} {scope : Scope} (h : ∀ y ∈ scope.names, y.2 = .free → ∃ c, env.cells.lookup y.1 = some c) : closureFor scope env = pure (clOf env scope.names []) := by
  simp only [closureFor]
  rw [closure_loop (env := env) (fun n k cs => by cases hk : k == NameKind.free <;> simp [hk]) scope.names [] h]
  rfl
theorem clOf_mem {env : Env} {x : Str} {c : Addr} : ∀ {l : List (Str × NameKind)} {cs : List (Str × Addr)}, (∀ z d, cs.lookup z = some d → env.cells.lookup z = some d) → (clOf env l cs).lookup x = some c → env.cells.lookup x = some c
  | [], _, hc, h => hc _ _ h
  | (n, k) :: r, cs, hc, h => by
    unfold clOf at h
    refine clOf_mem (l := r) ?_ h
    intro z d hz
    split at hz
    · split at hz
      · rename_i a ha
        rw [List.lookup_cons] at hz
        split at hz
        · rename_i e
          have e' : z = n := by simpa using e
          subst e'
          rw [ha]
          exact hz
        · exact hc z d hz
      · exact hc z d hz
    · exact hc z d hz
theorem clOf_get {env : Env} {x : Str} {c : Addr} (e : env.cells.lookup x = some c) : ∀ {l : List (Str × NameKind)} {cs : List (Str × Addr)}, (∀ z d, cs.lookup z = some d → env.cells.lookup z = some d) →
    ((x, NameKind.free) ∈ l ∨ ∃ d, cs.lookup x = some d) → (clOf env l cs).lookup x = some c
  | [], cs, hc, h => by
    rcases h with h | ⟨d, h⟩
    · simp at h
    · have := hc x d h
      rw [e] at this
      cases this
      exact h
  | (n, k) :: r, cs, hc, h => by
    unfold clOf
    have hc2 : ∀ z d, (if (k == NameKind.free) = true then (match env.cells.lookup n with | some a => (n, a) :: cs | none => cs) else cs).lookup z = some d → env.cells.lookup z = some d := by
      intro z d hz
      split at hz
      · split at hz
        · rename_i a ha
          rw [List.lookup_cons] at hz
          split at hz
          · rename_i e
            have e' : z = n := by simpa using e
            subst e'
            rw [ha]
            exact hz
          · exact hc z d hz
        · exact hc z d hz
      · exact hc z d hz
    refine clOf_get e (l := r) hc2 ?_
    have keep : ∀ d, cs.lookup x = some d → ∃ d, (if (k == NameKind.free) = true then (match env.cells.lookup n with | some a => (n, a) :: cs | none => cs) else cs).lookup x = some d := by
      intro d hd
      split
      · split
        · rename_i a ha
          rw [List.lookup_cons]
          split
          · exact ⟨_, rfl⟩
          · exact ⟨d, hd⟩
        · exact ⟨d, hd⟩
      · exact ⟨d, hd⟩
    rcases h with h | ⟨d, h⟩
    · rcases List.mem_cons.mp h with h | h
      · have e1 : x = n := congrArg Prod.fst h
        have e2 : k = NameKind.free := (congrArg Prod.snd h).symm
        subst e1 e2
        refine .inr ⟨c, ?_⟩
        rw [if_pos (by decide), e]
        simp [List.lookup_cons]
      · exact .inl h
    · exact .inr (keep d h)

theorem relabel_free {env : Env} : ∀ {names : List (Str × NameKind)} {x : Str} {k : NameKind},
    (names.map fun (n, k) => if (k == NameKind.free && env.scope.kind == .function && env.kindOf n == some .cell) then (n, NameKind.cell) else (n, k)).lookup x = some k → (k = .cell ∨ k = .free) → (∀ y ∈ names, y.2 ≠ .cell) → names.lookup x = some .free
  | [], _, _, h, _, _ => by simp at h
  | (n, k0) :: r, x, k, h, hk, hn => by
    have ih := @relabel_free env r x k
    have h' : List.lookup x ((if (k0 == NameKind.free && env.scope.kind == .function && env.kindOf n == some .cell) = true then (n, NameKind.cell) else (n, k0)) :: (r.map fun (n, k) => if (k == NameKind.free && env.scope.kind == .function && env.kindOf n == some .cell) then (n, NameKind.cell) else (n, k))) = some k := h
    cases hx : x == n with
    | true =>
      have go : List.lookup x ((n, k0) :: r) = some k0 := by simp [List.lookup_cons, hx]
      rw [go]
      by_cases hc : (k0 == NameKind.free && env.scope.kind == .function && env.kindOf n == some .cell) = true
      · have : k0 = NameKind.free := by
          simp only [Bool.and_eq_true] at hc
          simpa using hc.1.1
        rw [this]
      · rw [if_neg hc] at h'
        simp only [List.lookup_cons, hx] at h'
        cases h'
        rcases hk with hk | hk
        · exact absurd hk (hn _ List.mem_cons_self)
        · rw [hk]
    | false =>
      have go : List.lookup x ((n, k0) :: r) = List.lookup x r := by simp [List.lookup_cons, hx]
      rw [go]
      refine ih ?_ hk (fun y hy => hn y (List.mem_cons_of_mem _ hy))
      by_cases hc : (k0 == NameKind.free && env.scope.kind == .function && env.kindOf n == some .cell) = true
      · rw [if_pos hc] at h'
        simp only [List.lookup_cons, hx] at h'
        exact h'
      · rw [if_neg hc] at h'
        simp only [List.lookup_cons, hx] at h'
        exact h'
theorem relabel_of_free {env : Env} : ∀ {names : List (Str × NameKind)} {x : Str}, names.lookup x = some .free →
    (names.map fun (n, k) => if (k == NameKind.free && env.scope.kind == .function && env.kindOf n == some .cell) then (n, NameKind.cell) else (n, k)).lookup x = some .cell ∨
    (names.map fun (n, k) => if (k == NameKind.free && env.scope.kind == .function && env.kindOf n == some .cell) then (n, NameKind.cell) else (n, k)).lookup x = some .free
  | [], _, h => by simp at h
  | (n, k0) :: r, x, h => by
    have ih := @relabel_of_free env r x
    show List.lookup x ((if (k0 == NameKind.free && env.scope.kind == .function && env.kindOf n == some .cell) = true then (n, NameKind.cell) else (n, k0)) :: _) = _ ∨ List.lookup x ((if (k0 == NameKind.free && env.scope.kind == .function && env.kindOf n == some .cell) = true then (n, NameKind.cell) else (n, k0)) :: _) = _
    cases hx : x == n with
    | true =>
      simp only [List.lookup_cons, hx] at h
      by_cases hc : (k0 == NameKind.free && env.scope.kind == .function && env.kindOf n == some .cell) = true
      · rw [if_pos hc]
        left
        simp only [List.lookup_cons, hx]
      · rw [if_neg hc]
        right
        simp only [List.lookup_cons, hx]
        exact h
    | false =>
      simp only [List.lookup_cons, hx] at h
      by_cases hc : (k0 == NameKind.free && env.scope.kind == .function && env.kindOf n == some .cell) = true
      · rw [if_pos hc]
        simp only [List.lookup_cons, hx]
        exact ih h
      · rw [if_neg hc]
        simp only [List.lookup_cons, hx]
        exact ih h



def blk (X : Cx) (N : List Str) (scope : Scope) (C : Addr) (s : Shared) (H : Hp) (ex : List Addr) : Cx where
  prog := X.prog
  w := X.w
  K := X.K
  mg := X.mg
  base := X.base
  A := X.A
  N := N
  s₀ := s
  H₀ := H
  env := compEnvC scope (clOf X.env scope.names []) C X.env
  outer := X.stack
  stack := X.stack
  ex := ex
  fn := fun _ => false
  calm := X.calm
  pn := []
  xe := fun _ _ => False

structure BlkScope (sc : Scope) (N own cn : List Str) (ci : List Nat) (scope : Scope) : Prop where
  kind : scope.kind = .function
  nocell : ∀ y ∈ scope.names, y.2 ≠ .cell
  names : ∀ y ∈ scope.names, y.2 = .local → scope.names.lookup y.1 = some .local
  free : ∀ y ∈ scope.names, y.2 = .free → sc.names.lookup y.1 = some .cell ∨ sc.names.lookup y.1 = some .free
  cap : (cn.map fun x => (some x : Option Str)) = ci.map fun i => N[i]?
  capk : ∀ x ∈ cn, scope.names.lookup x = some .free
  nd : (own ++ cn).Nodup
def blkS (own : List Str) (ci : List Nat) (σ : St) : St := own.map (fun _ => none) ++ ci.map fun i => (σ[i]?).join

section
variable {X : Cx} {pins : List (Addr × Obj)} {σ : St} {H H2 : Hp} {s s2 : Shared} {sc : Scope} {N own cn : List Str} {ci : List Nat} {scope : Scope} {fp : List Addr}
theorem blk_cells (S : BlkScope sc N own cn ci scope) (hsc : X.env.scope = sc) (I : Inv X pins σ H s) : ∀ y ∈ scope.names, y.2 = .free → ∃ c, X.env.cells.lookup y.1 = some c := fun y hy hf => by
  refine I.ok.has y.1 ?_
  have := S.free y hy hf
  rw [← hsc] at this
  exact this
theorem blk_inv (S : BlkScope sc N own cn ci scope) (hsc : X.env.scope = sc) (hN : X.N = N) (I : Inv X pins σ H s) (hfp : ∀ b ∈ fp, FpOk X pins H b) (hlt : ∀ b ∈ fp, b < s.heap.objs.size) {h1 : Heap} {tk : Nat} {m : Str → Option Value}
    (hns : h1.Ns s.heap.objs.size m) (keep : ∀ b o, s.heap.get? b = some o → h1.get? b = some o) :
    Inv (blk X (own ++ cn) scope s.heap.objs.size s H fp) [] (blkS own ci σ) H { s with heap := h1, toks := tk } := by
  have ccl : ∀ x c, (clOf X.env scope.names []).lookup x = some c → X.env.cells.lookup x = some c := fun x c e => clOf_mem (fun z d h => by simp at h) e
  have cnl : cn.length = ci.length := by have := congrArg List.length S.cap; simpa using this
  refine ⟨⟨I.ok.mod, ?_, I.ok.glob, I.ok.blt, Nat.le_refl _, fun x y c e1 e2 => I.ok.inj x y c (ccl x c e1) (ccl y c e2), fun x hx => ?_, fun x c hf _ => ?_, I.ok.hd, I.ok.frames, .inl rfl, fun b hb => ⟨Nat.ne_of_lt (hlt b hb), fun x c e => (hfp b hb).2.2.2.2.1 x c (ccl x c e)⟩, I.bs, Nat.le_trans I.ok.bsz I.sz, fun b o e hb => ?_, fun b hb hb2 => ?_, I.stack, I.stkFree⟩,
    rfl, I.bare, Un.kept keep, ⟨m, hns, fun i x v e1 e2 e3 => ?_⟩, fun x c e => ?_, I.hok.fresh (Nat.le_refl _), fun x c e => I.freeC x c (ccl x c e), fun p hp => absurd (show p ∈ ([] : List (Addr × Obj)) from hp) (by simp), I.hok.kept keep, ?_⟩
  · exact S.kind
  · have hx' : (relabel scope X.env).names.lookup x = some .cell ∨ (relabel scope X.env).names.lookup x = some .free := hx
    have hfree : scope.names.lookup x = some .free := by
      rcases hx' with q | q
      · exact relabel_free q (.inl rfl) S.nocell
      · exact relabel_free q (.inr rfl) S.nocell
    have hm := PySem.mem_of_lookup hfree
    obtain ⟨c, hc⟩ := blk_cells S hsc I _ hm rfl
    exact ⟨c, clOf_get hc (fun z d h => by simp at h) (.inl hm)⟩
  · exact absurd hf (by show ¬ (false = true); decide)
  · rcases (hfp b hb).2.2.2.1 with z | z
    · exact I.ok.noex b o e z
    · exact absurd (Nat.lt_of_lt_of_le (Heap.lt_size (I.ok.bs b o e).1) z) (Nat.lt_irrefl _)
  · rcases List.mem_cons.mp (I.stkSub b hb2) with z | z
    · exact (hfp b hb).2.1 z
    · exact (hfp b hb).2.2.1 z
  · have e1' : (own ++ cn)[i]? = some x := e1
    unfold blkS at e2
    by_cases hi : i < own.length
    · rw [List.getElem?_append_left (by simpa using hi), List.getElem?_map] at e2
      cases q : own[i]? with
      | none => rw [q] at e2; cases e2
      | some z => rw [q] at e2; cases e2
    · rw [List.getElem?_append_right (by simpa using hi)] at e2
      rw [List.getElem?_append_right (by omega)] at e1'
      rw [List.length_map, List.getElem?_map] at e2
      cases q : ci[i - own.length]? with
      | none => rw [q] at e2; cases e2
      | some j =>
        rw [q] at e2
        have e2' : (σ[j]?).join = some v := Option.some.inj e2
        have e3' : σ[j]? = some (some v) := by
          cases z : σ[j]? with
          | none => rw [z] at e2'; cases e2'
          | some o => rw [z] at e2'; exact congrArg some e2'
        have hNj : X.N[j]? = some x := by
          have c1 := congrArg (fun l => l[i - own.length]?) S.cap
          simp only [List.getElem?_map, e1', q, Option.map_some] at c1
          rw [hN]
          exact (Option.some.inj c1).symm
        have hfree := S.capk x (List.mem_of_getElem? e1')
        have hm := PySem.mem_of_lookup hfree
        have hk := S.free _ hm rfl
        rw [← hsc] at hk
        have hvis : Vis X.env.scope x := .inr hk
        obtain ⟨m0, _, hl⟩ := I.loc
        obtain ⟨u, r, l⟩ := hl j x v hNj e3' hvis
        refine ⟨u, r, .inr ⟨relabel_of_free hfree, ?_⟩⟩
        rcases l with ⟨l, _⟩ | ⟨_, c, ec, z⟩
        · have l' : X.env.scope.names.lookup x = some .local := l
          rcases hk with hk | hk <;> (rw [hk] at l'; cases l')
        · refine ⟨c, clOf_get ec (fun z d h => by simp at h) (.inl hm), ?_⟩
          obtain ⟨o, ho, hd⟩ := z
          exact ⟨o, keep c o ho, hd⟩
  · obtain ⟨v, o, ho, hd⟩ := I.cell x c (ccl x c e)
    exact ⟨v, o, keep c o ho, hd⟩
  · show (blkS own ci σ).length = (own ++ cn).length
    unfold blkS
    rw [List.length_append, List.length_append, List.length_map, List.length_map, cnl]
end


def PTs (X : Cx) (ifs : List Expr) (t : TT) : Prop :=
  ∀ (pins : List (Addr × Obj)) (s : Shared) (σ : St) (H : Hp) (Q : Bool → Hp → Prop), Inv X pins σ H s → t σ H Q →
    wpAny (model X.prog X.w) X.A (forIn ifs true fun c r => if r = true then do let ok ← isTrue c X.env (eval c X.env); pure (ForInStep.yield ok) else pure (ForInStep.yield r)) (TP X pins σ Q) X.xe s
def tTrue : TT := fun _ H Q => Q true H
theorem pts_nil {X : Cx} : PTs X [] tTrue := fun _ _ _ H _ I h => wpAny_tests_nil ⟨H, I, h⟩
theorem pts_one {X : Cx} {c : Expr} {t : TT} (h : PT X c t) : PTs X [c] t := fun pins s σ H Q I q => wpAny_tests_one (h pins s σ H Q I q)


def LcW (J : It) (g : TG) (tt : TT) (te : TE) (D : Addr) (Q : Hp → Prop) (W : Nat → Nat → St → Hp → Prop) : Prop := ∀ i m σ H, W i m σ H →
  (J.stop i H ∧ Q H) ∨ (J.go i H ∧ ∀ x H1, J.yld i H x H1 → g x σ H1 fun σ2 H2 => tt σ2 H2 fun ok H3 => if ok = true then te σ2 H3 fun y H4 => ∃ ys, H4 D = some (.lst ys) ∧ ys.length < sizeLine ∧
    ∃ m', m' < m ∧ W (i + 1) m' σ2 (upd H4 D (.lst (ys ++ [y]))) else ∃ m', m' < m ∧ W (i + 1) m' σ2 H3)
def tLC (own : List Str) (ci : List Nat) (wi : TI) (g : TG) (tt : TT) (te : TE) : TE := fun σ H Q => wi σ H fun J H1 => ∀ D, H1 D = none →
  ∃ W : Nat → Nat → St → Hp → Prop, (∃ m, W 0 m (blkS own ci σ) (upd H1 D (.lst []))) ∧ LcW J g tt te D (Q (.ref D)) W

section
variable {X : Cx} {pins : List (Addr × Obj)} {σ : St} {H H2 : Hp} {s s2 : Shared} {sc : Scope} {N own cn : List Str} {ci : List Nat} {scope : Scope} {fp : List Addr}
  {elt tg iter : Expr} {ifs : List Expr} {pos : Pos} {g : TG} {tt : TT} {te : TE} {wi : TI}
theorem lc_block {it : Addr} {tn : Nat → Heap → Prop} {J : It} {Q : VK} {E : Value → Shared → Prop} {RR : Value → Addr → Result → Shared → Prop} (S : BlkScope sc N own cn ci scope) (hsc : X.env.scope = sc) (hN : X.N = N) (hc : X.calm = true)
    (I2 : Inv X pins σ H2 s2) (T : Turn X.prog X.w X.K tg J fp it tn) (st2 : tn 0 s2.heap) (f2 : ∀ b ∈ fp, FpOk X pins H2 b)
    (hg : ∀ C s H, PG (blk X (own ++ cn) scope C s H fp) tg g) (ht : ∀ C s H, PTs (blk X (own ++ cn) scope C s H fp) ifs tt) (he : ∀ C s H, PE (blk X (own ++ cn) scope C s H fp) elt te)
    (q : ∀ D, H2 D = none → ∃ W : Nat → Nat → St → Hp → Prop, (∃ m, W 0 m (blkS own ci σ) (upd H2 D (.lst []))) ∧ LcW J g tt te D (Q (.ref D)) W)
    (hRR : ∀ D C H' s', Inv X pins σ H' s' → Q (.ref D) H' → (∃ m, s'.heap.Ns C m) → FpOk X pins H' C → RR (.ref D) C (.ok .next) s') :
    wpAny (model X.prog X.w) X.A (newList []) (fun acc s3 => wpAny (model X.prog X.w) X.A (newFunctionEnv scope X.env.globals (clOf X.env scope.names []) [] X.env.qual none .none (some X.env)) (fun cenv s4 =>
      codeAny (model X.prog X.w) X.A (.compStart (.ListComp elt [⟨tg, iter, ifs, 0⟩] scope pos) 0 (.ref it) acc { cenv with scope := relabel scope X.env }) (RR acc cenv.locals) s4) E s3) E s2 := by
  refine wpAny_newObj_type (wpAny_newFunctionEnv S.nocell (by intro y hy; simp at hy) (fun h1 hns1 hsb1 => ?_) S.kind)
  dsimp only at hns1 hsb1 ⊢
  have I3 : Inv X pins σ (upd H2 s2.heap.objs.size (.lst [])) { s2 with heap := s2.heap.push { cls := .type "list", data := .seq ([] : List Value).toArray }, toks := s2.toks } := I2.lnew (its := []) (t' := s2.toks) .nil (Nat.zero_le _)
  have hD : H2 s2.heap.objs.size = none := I2.hok.fresh (Nat.le_refl _)
  have fpe : ∀ b ∈ fp, b < s2.heap.objs.size := fun b hb => by
    obtain ⟨o, e, _⟩ := T.obj _ _ st2 b hb
    exact Heap.lt_size e
  have f3 : ∀ b ∈ fp, FpOk X pins (upd H2 s2.heap.objs.size (.lst [])) b := fun b hb => ⟨by rw [upd_ne (Nat.ne_of_lt (fpe b hb))]; exact (f2 b hb).1, (f2 b hb).2⟩
  obtain ⟨W, ⟨m0, w0⟩, turn⟩ := q s2.heap.objs.size hD
  generalize hs3 : ({ s2 with heap := s2.heap.push { cls := .type "list", data := .seq ([] : List Value).toArray }, toks := s2.toks } : Shared) = s3 at I3
  have e3 : s3.heap = s2.heap.push { cls := .type "list", data := .seq ([] : List Value).toArray } := by rw [← hs3]
  have hsz3 : s3.heap.objs.size = s2.heap.objs.size + 1 := by rw [e3, Heap.size_push]
  have keep3 : ∀ b o, s2.heap.get? b = some o → s3.heap.get? b = some o := fun b o e => by rw [e3]; exact Heap.get?_push_of_some _ e
  have keep : ∀ b o, s3.heap.get? b = some o → h1.get? b = some o := fun b o e => by
    refine hsb1.extBut b o ?_ (Heap.get?_push_of_some _ (by rw [← e3]; exact e))
    have := Heap.lt_size e
    rw [e3] at this
    exact Nat.ne_of_lt this
  have hns : h1.Ns s3.heap.objs.size (fun x => ([] : List (Str × Value)).reverse.lookup x) := by rw [e3]; exact hns1
  have I4 := blk_inv (fp := fp) (tk := s2.toks + ([] : List (Str × Value)).length) S hsc hN I3 f3 (fun b hb => by rw [hsz3]; exact Nat.lt_succ_of_lt (fpe b hb)) hns keep
  have st4 : tn 0 h1 := T.keep _ _ _ st2 fun b hb o e => keep b o (keep3 b o e)
  have hC : (s2.heap.push { cls := .type "list", data := .seq ([] : List Value).toArray }).objs.size = s3.heap.objs.size := by rw [e3]
  have stat : ∀ {H' : Hp}, (∀ b ∈ fp, H' b = none) → ∀ b ∈ fp, FpOk (blk X (own ++ cn) scope s3.heap.objs.size s3 (upd H2 s2.heap.objs.size (.lst [])) fp) [] H' b := fun hn b hb =>
    ⟨hn b hb, Nat.ne_of_lt (by rw [hsz3]; exact Nat.lt_succ_of_lt (fpe b hb)), fun z => I4.ok.exfs b hb z, .inl hb, (I4.ok.exf b hb).2, fun p hp => absurd (show p ∈ ([] : List (Addr × Obj)) from hp) (by simp)⟩
  have loop : ∀ s4 : Shared, s4 = { s3 with heap := h1, toks := s2.toks + ([] : List (Str × Value)).length } →
      codeAny (model X.prog X.w) X.A (.compLoop (.ListComp elt [⟨tg, iter, ifs, 0⟩] scope pos) 0 (.ref it) (.ref s2.heap.objs.size) (compEnvC scope (clOf X.env scope.names []) s3.heap.objs.size X.env)) (RR (.ref s2.heap.objs.size) s3.heap.objs.size) s4 := by
    rintro s4 rfl
    refine comp_loop (fun n s' => ∃ i σ' H', Inv (blk X (own ++ cn) scope s3.heap.objs.size s3 (upd H2 s2.heap.objs.size (.lst [])) fp) [] σ' H' s' ∧ tn i s'.heap ∧ (∀ b ∈ fp, H' b = none) ∧ W i n σ' H') ?_ m0
      ⟨0, _, _, I4, st4, fun b hb => (f3 b hb).1, w0⟩
    rintro n s5 ⟨i, σ5, H5, I5, st5, fr5, w5⟩
    rcases turn i n σ5 H5 w5 with ⟨stop, qn⟩ | ⟨go, step⟩
    · refine thn (T.done (blk X (own ++ cn) scope s3.heap.objs.size s3 (upd H2 s2.heap.objs.size (.lst [])) fp) rfl rfl rfl hc i [] s5 σ5 H5 (fun _ _ => False) I5 (stat fr5) st5 stop) fun r s6 ⟨hr, I6⟩ => ?_
      subst hr
      refine hRR _ _ H5 s6 (I3.call' I6.os I6.base I6.hok I6.bare fun b hb => ⟨(f3 b hb).2.2.2.1, (f3 b hb).2.1, (f3 b hb).2.2.2.2.1, (f3 b hb).2.2.2.2.2⟩) qn (let ⟨m, hn, _⟩ := I6.loc; ⟨m, hn⟩) (I3.fpOk (Nat.le_refl _) I6.free)
    · refine thn (T.item (blk X (own ++ cn) scope s3.heap.objs.size s3 (upd H2 s2.heap.objs.size (.lst [])) fp) rfl rfl rfl hc i [] s5 σ5 H5 (fun _ _ => False) I5 (stat fr5) st5 go) fun r s6 ⟨u, hr, h6⟩ => ?_
      subst hr
      refine thn h6 fun _ s7 ⟨x, H7, I7, r7, y7, st7, fr7⟩ => ?_
      have I7' := I7.pinned (stat fr7) (T.obj _ _ st7)
      refine thn (hg _ _ _ _ s7 σ5 H7 x u _ I7' r7 (step x H7 y7)) fun _ s8 ⟨σ8, H8, I8, q8⟩ => ?_
      refine thn (ht _ _ _ _ s8 σ8 H8 _ I8 q8) fun ok s9 ⟨H9, I9, q9⟩ => ?_
      have again : ∀ {H' : Hp} {s' : Shared} {m' : Nat}, Inv (blk X (own ++ cn) scope s3.heap.objs.size s3 (upd H2 s2.heap.objs.size (.lst [])) fp) ([] ++ pinsAt fp s7.heap) σ8 H' s' → W (i + 1) m' σ8 H' →
          ∃ i σ' H', Inv (blk X (own ++ cn) scope s3.heap.objs.size s3 (upd H2 s2.heap.objs.size (.lst [])) fp) [] σ' H' s' ∧ tn i s'.heap ∧ (∀ b ∈ fp, H' b = none) ∧ W i m' σ' H' := fun {H' s' m'} I' w' => by
        refine ⟨i + 1, σ8, H', I'.unpinned, T.keep _ _ _ st7 fun b hb o e => (I'.pin (b, o) (List.mem_append_right _ (List.mem_append_right _ (mem_pinsAt hb e)))).1, fun b hb => ?_, w'⟩
        obtain ⟨o, e, _⟩ := T.obj _ _ st7 b hb
        exact (I'.pin (b, o) (List.mem_append_right _ (List.mem_append_right _ (mem_pinsAt hb e)))).2.1
      cases ok with
      | false =>
        obtain ⟨m', hm, w'⟩ := q9
        exact ⟨m', hm, again I9 w'⟩
      | true =>
        refine thn (he _ _ _ _ s9 σ8 H9 _ I9 q9) fun v s10 ⟨y, H10, I10, r10, ys, hDl, hz, m', hm, w'⟩ => ?_
        refine thn (mt_append _ s10 σ8 H10 (.ref s2.heap.objs.size) [y] (.ref s2.heap.objs.size) [v] (fun _ H11 => H11 = upd H10 s2.heap.objs.size (.lst (ys ++ [y]))) I10 rfl (.cons r10 .nil) ⟨_, ys, y, rfl, rfl, hDl, hz, rfl⟩) fun _ s11 ⟨_, H11, I11, _, e11⟩ => ?_
        subst e11
        exact ⟨m', hm, again I11 w'⟩
  have es : ({ s2 with heap := h1, toks := s2.toks + ([] : List (Str × Value)).length } : Shared) = { s3 with heap := h1, toks := s2.toks + ([] : List (Str × Value)).length } := by rw [← hs3]
  rw [hC]
  exact codeAny_compStart_list (loop _ es) (T.self _ 0 _ _ _ st4 (loop _ es))

theorem pe_lc (S : BlkScope sc N own cn ci scope) (hsc : X.env.scope = sc) (hN : X.N = N) (hc : X.calm = true) (hi : PI X tg iter wi)
    (hg : ∀ fp C s H, PG (blk X (own ++ cn) scope C s H fp) tg g) (ht : ∀ fp C s H, PTs (blk X (own ++ cn) scope C s H fp) ifs tt) (he : ∀ fp C s H, PE (blk X (own ++ cn) scope C s H fp) elt te)
    (hs : ∀ x, foldedSetIterable iter X.env x = pure x := by intro _; rfl) : PE X (.ListComp elt [⟨tg, iter, ifs, 0⟩] scope pos) (tLC own ci wi g tt te) := by
  intro pins s σ H Q I h
  rw [eval_ListComp]
  refine wpAny_comprehension_free (use := none) rfl hs (closure_eq (blk_cells S hsc I)) S.kind S.names (thn (hi pins s σ H _ I h) fun xv s1 h1 => thn h1 fun itv s2 h2 => ?_)
  obtain ⟨it, fp, tn, J, H2, e, I2, T, st2, f2, q⟩ := h2
  subst e
  refine lc_block (RR := fun acc C => compPost (model X.prog X.w) X.A X.xe none (EP X pins σ Q) acc C) S hsc hN hc I2 T st2 f2 (hg fp) (ht fp) (he fp) q ?_
  intro D C H' s' I' q' ⟨m, hn⟩ fC
  exact ⟨m, hn, fun h' hs' => ⟨.ref D, H', I'.turned (t' := s'.toks) (fun b o hb e => (hs'.2 b hb).trans e) fC.1 (Ne.symm (Ne.symm fC.2.1)) fC.2.2.2.1 fC.2.2.2.2.1 fC.2.2.2.2.2, rfl, q'⟩⟩


def tSetLC (i : Nat) (t : TE) : TS := fun D σ H => t σ H fun v H1 => D.nx (σ.set i (some v)) H1
theorem ps_setlc {i : Nat} {y : Str} {py spos : Pos} (S : BlkScope sc N own cn ci scope) (hsc : X.env.scope = sc) (hN : X.N = N) (hc : X.calm = true) (hi : PI X tg iter wi)
    (hg : ∀ fp C s H, PG (blk X (own ++ cn) scope C s H fp) tg g) (ht : ∀ fp C s H, PTs (blk X (own ++ cn) scope C s H fp) ifs tt) (he : ∀ fp C s H, PE (blk X (own ++ cn) scope C s H fp) elt te)
    (hnd : X.N.Nodup) (hiy : X.N[i]? = some y) (hy : X.env.scope.names.lookup y = some .local)
    (hsw : swapsWith (.ListComp elt [⟨tg, iter, ifs, 0⟩] scope pos) (some (.Name y py)) spos.line X.env = pure true)
    (hs : ∀ x, foldedSetIterable iter X.env x = pure x := by intro _; rfl) : PS X (.Assign [.Name y py] (.ListComp elt [⟨tg, iter, ifs, 0⟩] scope pos) spos) (tSetLC i (tLC own ci wi g tt te)) := by
  intro pins s σ H D I h
  rw [exec_Assign_Name_used _ _ _ _ hsw]
  refine wpAny_bind (wpAny_standAt (wpAny_bind ?_))
  show wpAny _ X.A (do let _ ← comprehension (.ListComp elt [⟨tg, iter, ifs, 0⟩] scope pos) scope X.env _ (newList []) false (eval iter X.env) (some (assign (.Name y py) X.env))) _ _ s
  refine wpAny_bind (wpAny_mono (wpAny_comprehension_free (use := some (assign (.Name y py) X.env)) (Q := fun _ s' => SP X pins D .next s') rfl hs (closure_eq (blk_cells S hsc I)) S.kind S.names
    (thn (hi pins s σ H _ I h) fun xv s1 h1 => thn h1 fun itv s2 h2 => ?_)) (fun _ s' hq => wpAny_pure (wpAny_pure hq)) fun _ _ e => e)
  obtain ⟨it, fp, tn, J, H2, e, I2, T, st2, f2, q⟩ := h2
  subst e
  refine lc_block (RR := fun acc C => compPost (model X.prog X.w) X.A X.xe (some (assign (.Name y py) X.env)) (fun _ s' => SP X pins D .next s') acc C) (Q := fun v H1 => D.nx (σ.set i (some v)) H1) S hsc hN hc I2 T st2 f2 (hg fp) (ht fp) (he fp) q ?_
  intro D' C H' s' I' q' ⟨m, hn⟩ fC
  refine wpAny_assign_Name (store_ok2 (v := .ref D') I' hnd hiy (.inl hy) rfl (fun s'' I'' ⟨a, hsb, ha⟩ => ?_) (.inr hy))
  have hCa : C ≠ a := by
    rcases ha with ha | ha
    · rw [ha]; exact fC.2.1
    · exact Ne.symm (fC.2.2.2.2.1 _ _ ha)
  exact ⟨m, hn.sameBut hsb hCa, fun h' hs' => ⟨_, H', I''.turned (t' := s''.toks) (fun b o hb e => (hs'.2 b hb).trans e) fC.1 fC.2.1 fC.2.2.2.1 fC.2.2.2.2.1 fC.2.2.2.2.2, q'⟩⟩
end


theorem lc_range {lo : Int} {n : Nat} {caps : St} {tt : TT} {te : TE} {D : Addr} {Q : Hp → Prop} {H1 : Hp} (Pv : Nat → List V → Hp → Prop) (hz : n ≤ sizeLine) (h0 : Pv 0 [] (upd H1 D (.lst []))) (hl : ∀ i ys H, Pv i ys H → ys.length ≤ i)
    (hs : ∀ i ys H (N : VK) (M : Hp → Prop), i < n → Pv i ys H → (∀ y H4, H4 D = some (.lst ys) → Pv (i + 1) (ys ++ [y]) (upd H4 D (.lst (ys ++ [y]))) → N y H4) → (∀ H3, Pv (i + 1) ys H3 → M H3) →
      tt (some (.int (lo + i)) :: caps) H fun ok H3 => if ok = true then te (some (.int (lo + i)) :: caps) H3 N else M H3)
    (hd : ∀ ys H, Pv n ys H → Q H) : ∃ W : Nat → Nat → St → Hp → Prop, (∃ m, W 0 m (none :: caps) (upd H1 D (.lst []))) ∧ LcW (Itr lo n) (gName 0) tt te D Q W := by
  refine ⟨fun i m σ H => m = n - i ∧ i ≤ n ∧ (∃ v, σ = v :: caps) ∧ ∃ ys, Pv i ys H, ⟨n, by simp, Nat.zero_le _, ⟨none, rfl⟩, [], h0⟩, ?_⟩
  rintro i m σ H ⟨rfl, hi, ⟨v, rfl⟩, ys, p⟩
  have hy := hl i ys H p
  by_cases hlt : i < n
  · refine .inr ⟨hlt, fun x H1 y => ?_⟩
    obtain ⟨e, y⟩ := y
    subst e y
    refine hs i ys _ _ _ hlt p (fun y H4 a c => ⟨ys, a, by omega, n - (i + 1), by omega, rfl, hlt, ⟨_, rfl⟩, _, c⟩) (fun H3 c => ⟨n - (i + 1), by omega, rfl, hlt, ⟨_, rfl⟩, ys, c⟩)
  · have e : i = n := by omega
    subst e
    exact .inl ⟨Nat.le_refl _, hd ys H p⟩
theorem lc_list {K : PySem.W.Frag} {a : Addr} {xs : List V} {caps : St} {tt : TT} {te : TE} {D : Addr} {Q : Hp → Prop} {H1 : Hp} (Pv : Nat → List V → Hp → Prop) (hz : xs.length ≤ sizeLine) (h0 : Pv 0 [] (upd H1 D (.lst []))) (hl : ∀ i ys H, Pv i ys H → ys.length ≤ i) (hq : ∀ i ys H, Pv i ys H → SqL K H a xs)
    (hs : ∀ i ys H (x : V) (N : VK) (M : Hp → Prop), xs[i]? = some x → Pv i ys H → (∀ y H4, H4 D = some (.lst ys) → Pv (i + 1) (ys ++ [y]) (upd H4 D (.lst (ys ++ [y]))) → N y H4) → (∀ H3, Pv (i + 1) ys H3 → M H3) →
      tt (some x :: caps) H fun ok H3 => if ok = true then te (some x :: caps) H3 N else M H3)
    (hd : ∀ ys H, Pv xs.length ys H → Q H) : ∃ W : Nat → Nat → St → Hp → Prop, (∃ m, W 0 m (none :: caps) (upd H1 D (.lst []))) ∧ LcW (Itl K a) (gName 0) tt te D Q W := by
  refine ⟨fun i m σ H => m = xs.length - i ∧ i ≤ xs.length ∧ (∃ v, σ = v :: caps) ∧ ∃ ys, Pv i ys H, ⟨xs.length, by simp, Nat.zero_le _, ⟨none, rfl⟩, [], h0⟩, ?_⟩
  rintro i m σ H ⟨rfl, hi, ⟨v, rfl⟩, ys, p⟩
  have hy := hl i ys H p
  by_cases hlt : i < xs.length
  · refine .inr ⟨⟨xs, xs[i], hq i ys H p, by simp [hlt]⟩, fun x H1 y => ?_⟩
    obtain ⟨e, y⟩ := y
    subst e
    have hx := y xs (hq i ys _ p)
    refine hs i ys _ x _ _ hx p (fun y H4 a c => ⟨ys, a, by omega, xs.length - (i + 1), by omega, rfl, hlt, ⟨_, rfl⟩, _, c⟩) (fun H3 c => ⟨xs.length - (i + 1), by omega, rfl, hlt, ⟨_, rfl⟩, ys, c⟩)
  · have e : i = xs.length := by omega
    subst e
    exact .inl ⟨⟨xs, hq _ ys H p, Nat.le_refl _⟩, hd ys H p⟩
theorem lc_tup {K : PySem.W.Frag} {a : Addr} {xs : List V} {caps : St} {tt : TT} {te : TE} {D : Addr} {Q : Hp → Prop} {H1 : Hp} (Pv : Nat → List V → Hp → Prop) (hz : xs.length ≤ sizeLine) (h0 : Pv 0 [] (upd H1 D (.lst []))) (hl : ∀ i ys H, Pv i ys H → ys.length ≤ i) (hq : ∀ i ys H, Pv i ys H → SqT K H a xs)
    (hs : ∀ i ys H (x : V) (N : VK) (M : Hp → Prop), xs[i]? = some x → Pv i ys H → (∀ y H4, H4 D = some (.lst ys) → Pv (i + 1) (ys ++ [y]) (upd H4 D (.lst (ys ++ [y]))) → N y H4) → (∀ H3, Pv (i + 1) ys H3 → M H3) →
      tt (some x :: caps) H fun ok H3 => if ok = true then te (some x :: caps) H3 N else M H3)
    (hd : ∀ ys H, Pv xs.length ys H → Q H) : ∃ W : Nat → Nat → St → Hp → Prop, (∃ m, W 0 m (none :: caps) (upd H1 D (.lst []))) ∧ LcW (Itt K a) (gName 0) tt te D Q W := by
  refine ⟨fun i m σ H => m = xs.length - i ∧ i ≤ xs.length ∧ (∃ v, σ = v :: caps) ∧ ∃ ys, Pv i ys H, ⟨xs.length, by simp, Nat.zero_le _, ⟨none, rfl⟩, [], h0⟩, ?_⟩
  rintro i m σ H ⟨rfl, hi, ⟨v, rfl⟩, ys, p⟩
  have hy := hl i ys H p
  by_cases hlt : i < xs.length
  · refine .inr ⟨⟨xs, xs[i], hq i ys H p, by simp [hlt]⟩, fun x H1 y => ?_⟩
    obtain ⟨e, y⟩ := y
    subst e
    have hx := y xs (hq i ys _ p)
    refine hs i ys _ x _ _ hx p (fun y H4 a c => ⟨ys, a, by omega, xs.length - (i + 1), by omega, rfl, hlt, ⟨_, rfl⟩, _, c⟩) (fun H3 c => ⟨xs.length - (i + 1), by omega, rfl, hlt, ⟨_, rfl⟩, ys, c⟩)
  · have e : i = xs.length := by omega
    subst e
    exact .inl ⟨⟨xs, hq _ ys H p, Nat.le_refl _⟩, hd ys H p⟩
end L2
namespace L2
open PySem PySem.Spec PyProof.Rows

section
variable {X : Cx}
def eqsV : List V → List V → Bool
  | [], [] => true
  | x :: xs, y :: ys => eqV x y && eqsV xs ys
  | _, _ => false
theorem eqsV_range : ∀ (xs ys : List V), xs.length = ys.length → ((List.range xs.length).all fun i => eqV (xs.getD i .non) (ys.getD i .non)) = eqsV xs ys
  | [], [], _ => rfl
  | x :: xs, y :: ys, h => by
    have h' : xs.length = ys.length := by simpa using h
    rw [List.length_cons, List.range_succ_eq_map, List.all_cons, List.all_map]
    have e := eqsV_range xs ys h'
    show (eqV x y && (List.range xs.length).all fun i => eqV (xs.getD i .non) (ys.getD i .non)) = (eqV x y && eqsV xs ys)
    rw [e]
theorem eqsV_len : ∀ (xs ys : List V), xs.length ≠ ys.length → eqsV xs ys = false
  | [], [], h => absurd rfl h
  | [], _ :: _, _ => rfl
  | _ :: _, [], _ => rfl
  | x :: xs, y :: ys, h => by
    have e := eqsV_len xs ys (by simpa using h)
    show (eqV x y && eqsV xs ys) = false
    rw [e, Bool.and_false]
theorem items_eqAt {A : Around} {s : Shared} {xs ys : List V} {us ws : List Value} (rx : Vals xs us) (ry : Vals ys ws) (fx : xs.all flatV = true) (fy : ys.all flatV = true) :
    ∀ j (h1 : j < us.toArray.size) (h2 : j < ws.toArray.size), SeqAt.EqAt A.in1 s us.toArray[j] ws.toArray[j] (eqV (xs.getD j .non) (ys.getD j .non)) := by
  intro j h1 h2
  have l1 := rx.length
  have l2 := ry.length
  have h1' : j < xs.length := by rw [l1]; simpa using h1
  have h2' : j < ys.length := by rw [l2]; simpa using h2
  obtain ⟨u, eu, ru⟩ := rx.get (i := j) (x := xs[j]) (by simp [h1'])
  obtain ⟨v, ev, rv⟩ := ry.get (i := j) (x := ys[j]) (by simp [h2'])
  have e1 : us.toArray[j] = u := by
    have := List.getElem?_eq_some_iff.mp eu
    obtain ⟨_, q⟩ := this
    simpa using q
  have e2 : ws.toArray[j] = v := by
    have := List.getElem?_eq_some_iff.mp ev
    obtain ⟨_, q⟩ := this
    simpa using q
  have d1 : xs.getD j .non = xs[j] := by simp [List.getD, h1']
  have d2 : ys.getD j .non = ys[j] := by simp [List.getD, h2']
  rw [e1, e2, d1, d2]
  exact eqAt_V ru rv (List.all_eq_true.mp fx _ (List.getElem_mem h1')) (List.all_eq_true.mp fy _ (List.getElem_mem h2'))
def rEqL (K : PySem.W.Frag) : R2 := fun x y H Q => ∃ a b xs ys, x = .ref a ∧ y = .ref b ∧ SqL K H a xs ∧ SqL K H b ys ∧ xs.all flatV = true ∧ ys.all flatV = true ∧ Q (.bl (eqsV xs ys)) H
theorem op_eqL (hu : X.A.units < cLine) : OpR X (compareOp .Eq) (rEqL X.K) := by
  intro pins s σ H x y v u Q I rx ry h
  obtain ⟨a, b, xs, ys, rfl, rfl, ha, hb, fx, fy, q⟩ := h
  cases rx
  cases ry
  obtain ⟨us, ru, pu, _⟩ := I.list ha
  obtain ⟨ws, rw', pw, _⟩ := I.list hb
  have l1 := ru.length
  have l2 := rw'.length
  by_cases hl : xs.length = ys.length
  · refine SeqAt.eq_listAt pu.isList pw.isList (by simp; omega) hu (items_eqAt ru rw' fx fy) ?_
    refine fin_bl I q ?_
    rw [List.size_toArray, ← l1]
    exact (eqsV_range xs ys hl).symm
  · refine SeqAt.eq_list_lengthsAt pu.isList pw.isList (by simp; omega) hu ?_
    exact fin_bl I q (eqsV_len xs ys hl)
theorem atI_int {xs : List V} {i : Int} {v : V} (h0 : 0 ≤ i) (h : xs[i.toNat]? = some v) : atI xs i = some v := by
  have e : i = ((i.toNat : Nat) : Int) := by omega
  rw [e]
  exact atI_nat h
theorem Same.upd_free {H H' : Hp} {a : Addr} {o : HO} (s : Same H H') (n : H a = none) : Same H (upd H' a o) := fun b u e => by
  rw [upd_ne (ne_of_none e n)]
  exact s b u e

def tCut (t : TS) : TS := fun D σ H => ∃ M : St → Hp → Prop, t { D with nx := M } σ H ∧ ∀ σ' H', M σ' H' → D.nx σ' H'
theorem ps_cut {st : Stmt} {t : TS} (h : PS X st t) : PS X st (tCut t) := by
  intro pins s σ H D I ⟨M, h1, h2⟩
  refine thn (h pins s σ H _ I h1) fun f s' q => ?_
  cases f with
  | next =>
    obtain ⟨σ', H', I', m⟩ := q
    exact ⟨σ', H', I', h2 _ _ m⟩
  | brk => exact q
  | cont => exact q
  | ret u => exact q
end
end L2
namespace L2
open PySem PySem.Spec PyProof.Rows


section
variable {κ : Type} [DecidableEq κ]
def valV (kvs : List (κ × V)) (k : κ) : Option V := (kvs.find? fun kv => decide (kv.1 = k)).map (·.2)

def putK (kvs : List (κ × V)) (k : κ) (v : V) : List (κ × V) :=
  if (kvs.any fun kv => decide (kv.1 = k)) = true then kvs.map (fun kv => if kv.1 = k then (kv.1, v) else kv) else kvs ++ [(k, v)]
def dropK (kvs : List (κ × V)) (k : κ) : List (κ × V) := kvs.filter fun kv => decide (kv.1 ≠ k)

theorem valV_pos {p : κ × V} {r : List (κ × V)} {k : κ} (e : p.1 = k) : valV (p :: r) k = some p.2 := by simp [valV, List.find?_cons, e]
theorem valV_neg {p : κ × V} {r : List (κ × V)} {k : κ} (e : ¬ p.1 = k) : valV (p :: r) k = valV r k := by simp [valV, List.find?_cons, e]
theorem valV_any (k : κ) : ∀ kvs : List (κ × V), (kvs.any fun kv => decide (kv.1 = k)) = (valV kvs k).isSome
  | [] => rfl
  | p :: r => by
    rw [List.any_cons]
    by_cases e : p.1 = k
    · simp only [valV_pos e, decide_eq_true e, Bool.true_or, Option.isSome_some]
    · rw [valV_neg e, decide_eq_false e, Bool.false_or]; exact valV_any k r
theorem length_putK (kvs : List (κ × V)) (k : κ) (v : V) : (putK kvs k v).length ≤ kvs.length + 1 := by
  unfold putK
  split
  · rw [List.length_map]; omega
  · rw [List.length_append, List.length_cons, List.length_nil]; omega
theorem putK_new {kvs : List (κ × V)} {k : κ} (v : V) (h : valV kvs k = none) : putK kvs k v = kvs ++ [(k, v)] := by
  unfold putK
  rw [valV_any, h]
  exact if_neg (by decide)

theorem RelO.isSome_eq {o : Option V} {u : Option Value} (r : RelO o u) : o.isSome = u.isSome := by
  cases o with
  | none => cases u with
    | none => rfl
    | some _ => exact (show False from r).elim
  | some _ => cases u with
    | none => exact (show False from r).elim
    | some _ => rfl
theorem KV.val {kvs : List (κ × V)} {vs : List (κ × Value)} (r : KV kvs vs) (k : κ) : RelO (valV kvs k) (valueAt vs k) := by
  unfold KV at r
  induction r with
  | nil => exact True.intro
  | @cons p q ps qs h t ih =>
    obtain ⟨h1, h2⟩ := h
    by_cases e : p.1 = k
    · have e' : q.1 = k := h1.symm.trans e
      have b : valueAt (q :: qs) k = some q.2 := by simp [valueAt, List.find?_cons, e']
      rw [valV_pos e, b]; exact h2
    · have e' : ¬ q.1 = k := fun z => e (h1.trans z)
      have b : valueAt (q :: qs) k = valueAt qs k := by simp [valueAt, List.find?_cons, e']
      rw [valV_neg e, b]; exact ih
theorem KV.any {kvs : List (κ × V)} {vs : List (κ × Value)} (r : KV kvs vs) (k : κ) : (kvs.any fun kv => decide (kv.1 = k)) = vs.any fun kv => decide (kv.1 = k) := by
  unfold KV at r
  induction r with
  | nil => rfl
  | cons h t ih => rw [List.any_cons, List.any_cons, ih, h.1]
theorem KV.repl {kvs : List (κ × V)} {vs : List (κ × Value)} (r : KV kvs vs) (k : κ) {y : V} {u : Value} (ry : RelV y u) :
    KV (kvs.map fun kv => if kv.1 = k then (kv.1, y) else kv) (vs.map fun kv => if kv.1 = k then (kv.1, u) else kv) := by
  unfold KV at r ⊢
  induction r with
  | nil => exact .nil
  | @cons p q ps qs h t ih =>
    rw [List.map_cons, List.map_cons]
    refine .cons ?_ ih
    obtain ⟨h1, h2⟩ := h
    by_cases e : p.1 = k
    · rw [if_pos e, if_pos (h1.symm.trans e)]; exact ⟨h1, ry⟩
    · rw [if_neg e, if_neg (fun z => e (h1.trans z))]; exact ⟨h1, h2⟩
theorem KV.put {kvs : List (κ × V)} {vs : List (κ × Value)} (r : KV kvs vs) (k : κ) {y : V} {u : Value} (ry : RelV y u) : KV (putK kvs k y) (stored vs k u) := by
  unfold putK stored
  rw [r.any k]
  by_cases e : (vs.any fun kv => decide (kv.1 = k)) = true
  · rw [if_pos e, if_pos e]; exact r.repl k ry
  · rw [if_neg e, if_neg e]; exact Paired.snoc r ⟨rfl, ry⟩
theorem KV.length {kvs : List (κ × V)} {vs : List (κ × Value)} (r : KV kvs vs) : kvs.length = vs.length := Paired.length r
end



theorem kV_is {P : Program} {w : World} {k : Key} {u : Value} (r : RelV (kV k) u) : (mixKind P w).is k u = true := by
  cases k with
  | inl i => obtain ⟨t, e⟩ := (show ∃ t, u = Value.int i t from r); subst e; exact mixKind_int P w i t
  | inr x => obtain ⟨t, e⟩ := (show ∃ t, u = Value.str x t from r); subst e; exact mixKind_str P w x t
theorem items_are {P : Program} {w : World} : ∀ {ks : List Key} {us : List Value}, Vals (ks.map kV) us → ItemsAre (mixKind P w) ks us
  | [], _, r => by rw [List.map_nil] at r; cases r; exact .nil
  | k :: ks, _, r => by
    rw [List.map_cons] at r
    cases r with
    | cons h t => exact .cons (kV_is h) (items_are t)


abbrev KT (H : Hp) : List (List Key × V) → List (List Key × Addr × Value) → Prop := Paired fun p q => p.1 = q.1 ∧ H q.2.1 = some (.tup (p.1.map kV)) ∧ RelV p.2 q.2.2
theorem KT.val {H : Hp} {kvs : List (List Key × V)} {xs : List (List Key × Addr × Value)} (r : KT H kvs xs) (k : List Key) : RelO (valV kvs k) ((atKey xs k).map (·.2)) := by
  induction r with
  | nil => exact True.intro
  | @cons p q ps qs h t ih =>
    obtain ⟨h1, _, h2⟩ := h
    by_cases e : p.1 = k
    · have e' : q.1 = k := h1.symm.trans e
      have b : atKey (q :: qs) k = some q.2 := by simp [atKey, List.find?_cons, e']
      rw [valV_pos e, b]; exact h2
    · have e' : ¬ q.1 = k := fun z => e (h1.trans z)
      have b : atKey (q :: qs) k = atKey qs k := by simp [atKey, List.find?_cons, e']
      rw [valV_neg e, b]; exact ih
theorem KT.repl {H : Hp} {kvs : List (List Key × V)} {xs : List (List Key × Addr × Value)} (r : KT H kvs xs) (k : List Key) {y : V} {u : Value} (ry : RelV y u) :
    KT H (kvs.map fun kv => if kv.1 = k then (kv.1, y) else kv) (xs.map (putAt k u)) := by
  induction r with
  | nil => exact .nil
  | @cons p q ps qs h t ih =>
    rw [List.map_cons, List.map_cons]
    refine .cons ?_ ih
    obtain ⟨h1, h2, h3⟩ := h
    unfold putAt
    by_cases e : p.1 = k
    · rw [if_pos e, if_pos (h1.symm.trans e)]; exact ⟨h1, h2, ry⟩
    · rw [if_neg e, if_neg (fun z => e (h1.trans z))]; exact ⟨h1, h2, h3⟩
theorem KT.put {H : Hp} {kvs : List (List Key × V)} {xs : List (List Key × Addr × Value)} (r : KT H kvs xs) (k : List Key) {b : Addr} {y : V} {u : Value} (hb : H b = some (.tup (k.map kV))) (ry : RelV y u) :
    KT H (putK kvs k y) (storedH xs k b u) := by
  have e : (kvs.any fun kv => decide (kv.1 = k)) = (atKey xs k).isSome := by
    rw [valV_any, (r.val k).isSome_eq, Option.isSome_map]
  unfold putK storedH
  rw [e]
  by_cases q : (atKey xs k).isSome = true
  · rw [if_pos q, if_pos q]; exact r.repl k ry
  · rw [if_neg q, if_neg q]; exact Paired.snoc r ⟨rfl, hb, ry⟩
theorem KT.keeps {H H' : Hp} {kvs : List (List Key × V)} {xs : List (List Key × Addr × Value)} (r : KT H kvs xs) (ht : ∀ b ys, H b = some (.tup ys) → H' b = some (.tup ys)) : KT H' kvs xs :=
  Paired.mapP r fun _ _ z => ⟨z.1, ht _ _ z.2.1, z.2.2⟩

section
variable {P : Program} {w : World} {H : Hp} {h : Heap} {a : Addr}
theorem rd_of {u : HO} (ok : HOk P w H h) (e : Rd H a u) : ObjOk P w H h a u := e.ok ok
theorem dk_rd {kvs : List (Key × V)} (ok : HOk P w H h) (e : Rd H a (.dK kvs)) : kvs.length ≤ sizeLine ∧ (a == sysModules) = false ∧ ∃ vs, KV kvs vs ∧ h.DictOf (mixKind P w) a vs :=
  show ObjOk P w H h a (.dK kvs) from rd_of ok e
theorem dk_of {kvs : List (Key × V)} (ok : HOk P w H h) (e : H a = some (.dK kvs)) : kvs.length ≤ sizeLine ∧ (a == sysModules) = false ∧ ∃ vs, KV kvs vs ∧ h.DictOf (mixKind P w) a vs := dk_rd ok (.inl e)

theorem key_of {ks : List Key} (ok : HOk P w H h) (e : H a = some (.tup (ks.map kV))) : (tupleKind (mixKind P w)).is h ks a := by
  obtain ⟨_, its, r, o, h1, h2, n, h3⟩ := (show ObjOk P w H h a (.tup (ks.map kV)) from ok a _ e)
  exact ⟨o, its.toArray, n, h1, h2, h3, by simpa using items_are r⟩
theorem dt_rd {kvs : List (List Key × V)} (ok : HOk P w H h) (e : Rd H a (.dT kvs)) : kvs.length ≤ sizeLine ∧ (a == sysModules) = false ∧
    ∃ xs, KT H kvs xs ∧ h.DictOfH (tupleKind (mixKind P w)) a xs := by
  obtain ⟨z, y, xs, r, o, es, ep, h1, h2, h3, h4, h5⟩ := (show ObjOk P w H h a (.dT kvs) from rd_of ok e)
  refine ⟨z, y, xs, r, o, es, ep, h1, h2, h3, h4, fun x hx => ?_, h5⟩
  have all : ∀ {l : List (List Key × V)} {m : List (List Key × Addr × Value)}, KT H l m → ∀ x ∈ m, (tupleKind (mixKind P w)).is h x.1 x.2.1 := by
    intro l m q
    induction q with
    | nil => intro x hx; exact nomatch hx
    | @cons p q ps qs hq t ih =>
      intro x hx
      rcases List.mem_cons.mp hx with e | hx
      · subst e
        exact key_of ok (by rw [← hq.1]; exact hq.2.1)
      · exact ih x hx
  exact all r x hx
theorem dt_of {kvs : List (List Key × V)} (ok : HOk P w H h) (e : H a = some (.dT kvs)) : kvs.length ≤ sizeLine ∧ (a == sysModules) = false ∧
    ∃ xs, KT H kvs xs ∧ h.DictOfH (tupleKind (mixKind P w)) a xs := dt_rd ok (.inl e)
end


def DGet (H : Hp) (a : Addr) (y : V) (r : Option V) : Prop :=
  (∃ kvs k, Rd H a (.dK kvs) ∧ y = kV k ∧ r = valV kvs k) ∨ ∃ kvs k b, Rd H a (.dT kvs) ∧ y = .ref b ∧ H b = some (.tup (k.map kV)) ∧ r = valV kvs k

def DPut (H : Hp) (a : Addr) (y v : V) (H' : Hp) : Prop :=
  (∃ kvs k, H a = some (.dK kvs) ∧ y = kV k ∧ kvs.length < sizeLine ∧ H' = upd H a (.dK (putK kvs k v))) ∨
  ∃ kvs k b, H a = some (.dT kvs) ∧ y = .ref b ∧ H b = some (.tup (k.map kV)) ∧ kvs.length < sizeLine ∧ H' = upd H a (.dT (putK kvs k v))
theorem DGet.t {H : Hp} {a b : Addr} {kvs : List (List Key × V)} {k : List Key} (e : H a = some (.dT kvs)) (eb : H b = some (.tup (k.map kV))) : DGet H a (.ref b) (valV kvs k) := .inr ⟨kvs, k, b, .inl e, rfl, eb, rfl⟩
theorem DPut.t {H : Hp} {a b : Addr} {kvs : List (List Key × V)} {k : List Key} {v : V} (e : H a = some (.dT kvs)) (eb : H b = some (.tup (k.map kV))) (hl : kvs.length < sizeLine) :
    DPut H a (.ref b) v (upd H a (.dT (putK kvs k v))) := .inr ⟨kvs, k, b, e, rfl, eb, hl, rfl⟩


section
variable {X : Cx} {pins : List (Addr × Obj)} {σ : St} {H : Hp} {s : Shared} {a : Addr} {y v : V} {u r : Value} {o : Option V} {A : Around} {E : Value → Shared → Prop}

theorem Inv.big (I : Inv X pins σ H s) : sysModules < s.heap.objs.size := by
  have h : mainGlobals < s.heap.objs.size := (I.mod.glob.keeps I.bk).lt
  exact Nat.lt_trans (by decide) h


theorem d_getItem {Q : Value → Shared → Prop} (hu : A.units + 1 < cLine) (I : Inv X pins σ H s) (g : DGet H a y (some v)) (ry : RelV y u) (h : ∀ w' s', Inv X pins σ H s' → RelV v w' → Q w' s') :
    wpAny (model X.prog X.w) A (getItem (.ref a) u) Q E s := by
  rcases g with ⟨kvs, k, e, ey, l⟩ | ⟨kvs, k, b, e, ey, eb, l⟩
  · subst ey
    obtain ⟨z, hd, vs, rel, dd⟩ := dk_rd I.hok e
    obtain ⟨w', hw, rw'⟩ := RelO.some_of (v := v) (o := valueAt vs k) (by rw [l]; exact rel.val k)
    exact wpAny_getItem_of (kV_is ry) dd.mapOf hw (h w' _ (I.tok _) rw')
  · subst ey
    cases (show u = Value.ref b from ry)
    obtain ⟨z, hd, xs, rel, dd⟩ := dt_rd I.hok e
    obtain ⟨w', hw, rw'⟩ := RelO.some_of (v := v) (o := (atKey xs k).map (·.2)) (by rw [l]; exact rel.val k)
    obtain ⟨p, hp, hp2⟩ := Option.map_eq_some_iff.mp hw
    refine wpAny_getItem_heap (tupleKind_room_in1 hu) (key_of I.hok eb) dd hp ?_
    rw [hp2]
    exact h w' _ (I.tok _) rw'

theorem d_notIn {Q : Value → Shared → Prop} (hu : A.units + 1 < cLine) (I : Inv X pins σ H s) (g : DGet H a y o) (ry : RelV y u) (h : ∀ s', Inv X pins σ H s' → Q (.bool (!o.isSome)) s') :
    wpAny (model X.prog X.w) A (compareOp .NotIn u (.ref a)) Q E s := by
  rcases g with ⟨kvs, k, e, ey, l⟩ | ⟨kvs, k, b, e, ey, eb, l⟩
  · subst ey
    obtain ⟨z, hd, vs, rel, dd⟩ := dk_rd I.hok e
    refine wpAny_notIn_of (kV_is ry) hd dd.mapOf ?_
    rw [← (rel.val k).isSome_eq, ← l]
    exact h _ (I.tok _)
  · subst ey
    cases (show u = Value.ref b from ry)
    obtain ⟨z, hd, xs, rel, dd⟩ := dt_rd I.hok e
    refine wpAny_notIn_heap (tupleKind_room_in1 hu) (key_of I.hok eb) hd dd ?_
    have q := (rel.val k).isSome_eq
    rw [Option.isSome_map] at q
    rw [← q, ← l]
    exact h _ (I.tok _)

theorem d_write {h' : Heap} {t' : Nat} {ob : HO} (I : Inv X pins σ H s) (mu : Mut (H a)) (hs : Heap.SameBut a s.heap h') (he : ∃ q, h'.get? a = some q) (new : ObjOk X.prog X.w (upd H a ob) h' a ob) :
    Inv X pins σ (upd H a ob) { s with heap := h', toks := t' } :=
  I.write (x := a) (e := a) mu (.inl rfl) (fun b q hb z => (hs.2 b hb).trans z) he new
theorem dk_new {P : Program} {w : World} {H' : Hp} {h' : Heap} {kvs : List (Key × V)} {vs : List (Key × Value)} (z : kvs.length ≤ sizeLine) (hd : (a == sysModules) = false) (rel : KV kvs vs) (dd : h'.DictOf (mixKind P w) a vs) :
    ObjOk P w H' h' a (.dK kvs) := ⟨z, hd, vs, rel, dd⟩

theorem d_setItem {H' : Hp} {Q : Unit → Shared → Prop} (hu : A.units + 1 < cLine) (I : Inv X pins σ H s) (g : DPut H a y v H') (ry : RelV y u) (rv : RelV v r) (h : ∀ s', Inv X pins σ H' s' → Q () s') :
    wpAny (model X.prog X.w) A (setItem (.ref a) u r) Q E s := by
  rcases g with ⟨kvs, k, e, ey, l, eH⟩ | ⟨kvs, k, b, e, ey, eb, l, eH⟩
  · subst ey eH
    obtain ⟨z, hd, vs, rel, dd⟩ := dk_of I.hok e
    have hz : vs.length ≤ sizeLine := by rw [← rel.length]; exact z
    have hl : (putK kvs k v).length ≤ sizeLine := by have := length_putK kvs k v; omega
    refine wpAny_setItem_pairs (hsz := hz) (kV_is ry) dd fun h' dd' hs => h _ ?_
    have he : ∃ q, h'.get? a = some q := let ⟨q, _, _, hq, _⟩ := dd'; ⟨q, hq⟩
    exact d_write I (by rw [e]; exact True.intro) hs he (dk_new hl hd (rel.put k rv) dd')
  · subst ey eH
    cases (show u = Value.ref b from ry)
    obtain ⟨z, hd, xs, rel, dd⟩ := dt_of I.hok e
    have hz : xs.length ≤ sizeLine := by rw [← Paired.length rel]; exact z
    have hl : (putK kvs k v).length ≤ sizeLine := by have := length_putK kvs k v; omega
    refine wpAny_setItem_heap (hsz := hz) (tupleKind_room_in1 hu) (key_of I.hok eb) dd fun h' dd' hs => h _ ?_
    obtain ⟨q, es, ep, hq, h2, h3, h4, _, h5⟩ := dd'
    refine d_write I (by rw [e]; exact True.intro) hs ⟨q, hq⟩ ⟨hl, hd, _, (rel.put k eb rv).keeps fun c ys ec => ?_, q, es, ep, hq, h2, h3, h4, h5⟩
    rw [upd_ne (ne_of ec e (fun z => nomatch z))]
    exact ec
end

section
variable {X : Cx} {pins : List (Addr × Obj)} {σ : St} {H : Hp} {s : Shared} {a : Addr} {kvs : List (Key × V)} {k : Key} {u : Value} {A : Around} {E : Value → Shared → Prop}

end




def NoSl (i : Expr) : Prop := ∀ ov iv, subscripted i false ov iv = operate [ov, iv] (getItem ov iv)
theorem subD_of {prog : Program} {w : World} {A : Around} {E : Value → Shared → Prop} {s : Shared} {env : Env} {value slice : Expr} {pos : Pos} {T id : String} {Q : Value → Shared → Prop}
    (hl : typeLookup (.type T) "__getitem__" = pure (some (.builtin id))) (hs : NoSl slice)
    (h : wpAny (model prog w) A (eval value env) (fun o s₁ => wpAny (model prog w) A (eval slice env) (fun i s₂ => s₂.TypeIs o T ∧ wpAny (model prog w) A (getItem o i) Q E s₂) E s₁) E s) :
    wpAny (model prog w) A (eval (.Subscript value slice pos) env) Q E s := by
  refine Subscript_ (wpAny_mono h (fun o s₁ h₁ => wpAny_mono h₁ (fun i s₂ h₂ => ?_) fun _ _ x => x) fun _ _ x => x)
  obtain ⟨hT, h₂⟩ := h₂
  unfold subscriptTail
  refine wpAny_bind ?_
  rw [getitemInPython_of_ne hT.not_modules]
  refine wpAny_bind (wpAny_specialOf hT hl ?_)
  have fin : wpAny (model prog w) A (subscripted slice false o i) (fun r s₃ => wpAny (model prog w) A (letTemporaryGo value o r >>= fun _ => pure r) Q E s₃) E s₂ := by
    rw [hs o i]
    exact wpAny_operating (wpAny_mono h₂ (fun r s₃ h₃ => wpAny_bind (wpAny_letTemporaryGo (wpAny_pure h₃))) fun _ _ x => x)
  first
    | exact wpAny_pure (wpAny_bind fin)
    | exact wpAny_bind (wpAny_pure (wpAny_bind fin))
    | exact wpAny_bind fin

theorem dict_typeIs {X : Cx} {pins : List (Addr × Obj)} {σ : St} {H : Hp} {s : Shared} {a : Addr} {y : V} {o : Option V} (I : Inv X pins σ H s) (g : DGet H a y o) : s.TypeIs (.ref a) "dict" := by
  rcases g with ⟨kvs, k, e, _, _⟩ | ⟨kvs, k, b, e, _, _, _⟩
  · obtain ⟨_, _, vs, _, dd⟩ := dk_rd I.hok e
    exact dd.typeIs
  · obtain ⟨_, _, xs, _, dd⟩ := dt_rd I.hok e
    exact dd.typeIs
def tDGet (td ty : TE) : TE := fun σ H Q => td σ H fun x H1 => ty σ H1 fun y H2 => ∃ a v, x = .ref a ∧ DGet H2 a y (some v) ∧ Q v H2

def tDIn (ty td : TE) : TE := fun σ H Q => ty σ H fun y H1 => td σ H1 fun x H2 => ∃ a o, x = .ref a ∧ DGet H2 a y o ∧ Q (.bl o.isSome) H2
def tDNotIn (ty td : TE) : TE := fun σ H Q => ty σ H fun y H1 => td σ H1 fun x H2 => ∃ a o, x = .ref a ∧ DGet H2 a y o ∧ Q (.bl (!o.isSome)) H2

def sDPut (td ty tv : TE) : TS := fun D σ H => tv σ H fun v H1 => td σ H1 fun x H2 => ty σ H2 fun y H3 => ∃ a H4, x = .ref a ∧ DPut H3 a y v H4 ∧ D.nx σ H4

def sDAug (td ty tv : TE) (rd : V → V → Hp → VK → Prop) : TS := fun D σ H => td σ H fun x H1 => ty σ H1 fun y H2 => ∃ a v, x = .ref a ∧ DGet H2 a y (some v) ∧
  tv σ H2 fun y2 H3 => rd v y2 H3 fun z H4 => ∃ H5, DPut H4 a y z H5 ∧ D.nx σ H5

def sDDel (td ty : TE) : TS := fun D σ H => td σ H fun x H1 => ty σ H1 fun y H2 => ∃ a kvs k, x = .ref a ∧ H2 a = some (.dK kvs) ∧ y = kV k ∧ (valV kvs k).isSome = true ∧ D.nx σ (upd H2 a (.dK (dropK kvs k)))

section
variable {X : Cx} {o i e value : Expr} {pos pos' tpos : Pos} {td ty tv : TE}
theorem pe_dget (hu : X.A.units + 1 < cLine) (ho : PE X o td) (hi : PE X i ty) (hs : NoSl i) : PE X (.Subscript o i pos) (tDGet td ty) := by
  intro pins s σ H Q I h
  refine subD_of PySem.F.slot_dict_getitem.lookup hs (thn (ho pins s σ H _ I h) fun u s1 ⟨x, H1, I1, rx, q1⟩ => thn (hi pins s1 σ H1 _ I1 q1) fun iv s2 ⟨y, H2, I2, ry, a, v, ex, g, q2⟩ => ?_)
  subst ex
  obtain rfl : u = Value.ref a := rx
  exact ⟨dict_typeIs I2 g, d_getItem hu I2 g ry fun w' s3 I3 rw' => ⟨v, H2, I3, rw', q2⟩⟩
theorem pc_dnotin (hu : X.A.units + 1 < cLine) (hi : PE X i ty) (ho : PE X o td) : PC X .NotIn i o (tDNotIn ty td) := by
  intro pins s σ H Q I h
  refine thn (hi pins s σ H _ I h) fun iv s1 ⟨y, H1, I1, ry, q1⟩ => thn (ho pins s1 σ H1 _ I1 q1) fun u s2 ⟨x, H2, I2, rx, a, ov, ex, g, q2⟩ => ?_
  subst ex
  obtain rfl : u = Value.ref a := rx
  exact d_notIn hu I2 g ry fun s3 I3 => ⟨.bl (!ov.isSome), H2, I3, rfl, q2⟩
theorem ps_dput (hu : X.A.units + 1 < cLine) (ho : PE X o td) (hi : PE X i ty) (hv : PE X value tv) (hs : swapsWith value (some (.Subscript o i pos')) pos.line X.env = pure false) :
    PS X (.Assign [.Subscript o i pos'] value pos) (sDPut td ty tv) := by
  intro pins s σ H D I h
  refine wpAny_Assign_Subscript (thn (hv pins s σ H _ I h) fun r s1 ⟨v, H1, I1, rv, q1⟩ => thn (ho pins s1 σ H1 _ I1 q1) fun u s2 ⟨x, H2, I2, rx, q2⟩ => thn (hi pins s2 σ H2 _ I2 q2) fun iv s3 ⟨y, H3, I3, ry, a, H4, ex, g, q3⟩ => ?_) hs
  subst ex
  obtain rfl : u = Value.ref a := rx
  exact d_setItem hu I3 g ry rv fun s4 I4 => ⟨σ, H4, I4, q3⟩
end



theorem dt_empty {P : Program} {w : World} {H : Hp} (h : Heap) (hb : sysModules < h.objs.size) : ObjOk P w H (h.push { cls := .type "dict", data := .dict #[] }) h.objs.size (.dT []) :=
  ⟨Nat.zero_le _, beq_eq_false_iff_ne.mpr (Ne.symm (Nat.ne_of_lt hb)), [], .nil, _, #[], 0, Heap.get?_push_size _ rfl, ⟨rfl, rfl, rfl⟩, rfl, rfl, List.nodup_nil⟩

def tDNewK : TE := fun _ H Q => ∀ p, H p = none → Q (.ref p) (upd H p (.dK []))
def tDNewT : TE := fun _ H Q => ∀ p, H p = none → Q (.ref p) (upd H p (.dT []))
section
variable {X : Cx} {pos : Pos}
end


def tPairs : List (TE × TE) → St → Hp → (List (V × V) → Hp → Prop) → Prop
  | [], _, H, Q => Q [] H
  | (tk, tv) :: r, σ, H, Q => tk σ H fun x H1 => tv σ H1 fun y H2 => tPairs r σ H2 fun ps H3 => Q ((x, y) :: ps) H3
abbrev VV : List (V × V) → List (Value × Value) → Prop := Paired fun p q => RelV p.1 q.1 ∧ RelV p.2 q.2
def PPs (X : Cx) (pos : Pos) (keys : List (Option Expr)) (values : List Expr) (trs : List (TE × TE)) : Prop :=
  ∀ (pins : List (Addr × Obj)) (s : Shared) (σ : St) (H : Hp) (Q : List (V × V) → Hp → Prop), Inv X pins σ H s → tPairs trs σ H Q →
    wpAny (model X.prog X.w) X.A (evalPairs (pairTrees keys values X.env pos)) (fun vs s' => ∃ ps H', Inv X pins σ H' s' ∧ VV ps vs ∧ Q ps H') X.xe s
theorem pps_nil {X : Cx} {pos : Pos} : PPs X pos [] [] [] := fun pins s σ H Q I h => pairTrees_nil_walk ⟨[], H, I, .nil, h⟩
theorem pps_cons {X : Cx} {pos : Pos} {k v : Expr} {ks : List (Option Expr)} {vs : List Expr} {tk tv : TE} {trs : List (TE × TE)} (hk : PE X k tk) (hv : PE X v tv) (hr : PPs X pos ks vs trs) :
    PPs X pos (some k :: ks) (v :: vs) ((tk, tv) :: trs) := fun pins s σ H Q I h =>
  pairTrees_cons_walk (thn (hk pins s σ H _ I h) fun u s1 ⟨x, H1, I1, rx, q1⟩ => thn (hv pins s1 σ H1 _ I1 q1) fun w2 s2 ⟨y, H2, I2, ry, q2⟩ =>
    thn (hr pins s2 σ H2 _ I2 q2) fun ws s3 ⟨ps, H3, I3, rel, q3⟩ => ⟨(x, y) :: ps, H3, I3, .cons ⟨rx, ry⟩ rel, q3⟩)

def mergeK (kvs more : List (Key × V)) : List (Key × V) := more.foldl (fun acc kv => putK acc kv.1 kv.2) kvs
def tDisp (trs : List (TE × TE)) : TE := fun σ H Q => ∀ p, H p = none → tPairs trs σ (upd H p (.dK [])) fun ps H2 => H2 p = some (.dK []) ∧ ∃ kvs : List (Key × V), ps = kvs.map (fun kv => (kV kv.1, kv.2)) ∧ kvs.length ≤ 15 ∧ Q (.ref p) (upd H2 p (.dK (mergeK [] kvs)))
structure M1 (X : Cx) (o : Expr) (m : Str) (apos : Pos) (e : Expr) (cpos : Pos) : Prop where
  base : attributeBase o m X.env (eval o X.env) = eval o X.env
  few : ((backTo cpos (starEach [e] X.env)).all (fun x => !x.1) && (backToKw cpos (keywordEach [] X.env)).all (fun x => x.1.isSome)
    && decide (([e] : List Expr).length + ([] : List Keyword).length + (if ([] : List Keyword).isEmpty then 0 else 1) < 30)) = true
  line : (apos.endLine == cpos.line) = true
  trees : backTo cpos (starEach [e] X.env) = [(false, eval e X.env)]
structure M2 (X : Cx) (o : Expr) (m : Str) (apos : Pos) (e f : Expr) (cpos : Pos) : Prop where
  base : attributeBase o m X.env (eval o X.env) = eval o X.env
  few : ((backTo cpos (starEach [e, f] X.env)).all (fun x => !x.1) && (backToKw cpos (keywordEach [] X.env)).all (fun x => x.1.isSome)
    && decide (([e, f] : List Expr).length + ([] : List Keyword).length + (if ([] : List Keyword).isEmpty then 0 else 1) < 30)) = true
  line : (apos.endLine == cpos.line) = true
  trees : backTo cpos (starEach [e, f] X.env) = [(false, eval e X.env), (false, eval f X.env)]


def IsD (H : Hp) (a : Addr) : Prop := (∃ kvs, Rd H a (.dK kvs)) ∨ ∃ kvs, Rd H a (.dT kvs)
section
variable {X : Cx} {pins : List (Addr × Obj)} {σ : St} {H : Hp} {s : Shared} {a : Addr} {y d : V} {u r : Value} {o : Option V} {A : Around} {E : Value → Shared → Prop}

end

def tDGet1 (td ty : TE) : TE := fun σ H Q => td σ H fun x H1 => ∃ a, x = .ref a ∧ IsD H1 a ∧ ty σ H1 fun y H2 => ∃ o, DGet H2 a y o ∧ Q (o.getD .non) H2
def tDGet2 (td ty tx : TE) : TE := fun σ H Q => td σ H fun x H1 => ∃ a, x = .ref a ∧ IsD H1 a ∧ ty σ H1 fun y H2 => tx σ H2 fun z H3 => ∃ o, DGet H3 a y o ∧ Q (o.getD z) H3

def tDPop1 (td ty : TE) : TE := fun σ H Q => td σ H fun x H1 => ∃ a, x = .ref a ∧ IsD H1 a ∧ ty σ H1 fun y H2 => ∃ kvs k v, H2 a = some (.dK kvs) ∧ y = kV k ∧ valV kvs k = some v ∧ Q v (upd H2 a (.dK (dropK kvs k)))
def tDPop2 (td ty tx : TE) : TE := fun σ H Q => td σ H fun x H1 => ∃ a, x = .ref a ∧ IsD H1 a ∧ ty σ H1 fun y H2 => tx σ H2 fun z H3 => ∃ kvs k, H3 a = some (.dK kvs) ∧ y = kV k ∧
  (∀ v, valV kvs k = some v → Q v (upd H3 a (.dK (dropK kvs k)))) ∧ (valV kvs k = none → Q z H3)
section
variable {X : Cx} {o e f : Expr} {apos cpos : Pos} {td ty tx : TE}
end


section
variable {X : Cx} {pins : List (Addr × Obj)} {σ : St} {H : Hp} {s : Shared} {a : Addr} {kvs : List (Key × V)} {A : Around} {E : Value → Shared → Prop}
end


section
variable {X : Cx} {pins : List (Addr × Obj)} {σ : St} {H : Hp} {s : Shared} {a : Addr} {y : V} {u : Value} {A : Around} {E : Value → Shared → Prop}

end
end L2
namespace L2
open PySem PySem.Spec PyProof.Rows

mutual
inductive DAt (K : PySem.W.Frag) (H : Hp) : V → PyData → Prop
  | non : DAt K H .non .none
  | bl (b : Bool) : DAt K H (.bl b) (.bool b)
  | int (i : Int) : DAt K H (.int i) (.int i)
  | str (x : Str) : DAt K H (.str x) (.str x)
  | lst {a : Addr} {xs : List V} {ds : List PyData} : SqL K H a xs → DsAt K H xs ds → DAt K H (.ref a) (.list ds)
  | tup {a : Addr} {xs : List V} {ds : List PyData} : SqT K H a xs → DsAt K H xs ds → DAt K H (.ref a) (.tuple ds)
inductive DsAt (K : PySem.W.Frag) (H : Hp) : List V → List PyData → Prop
  | nil : DsAt K H [] []
  | cons {x : V} {d : PyData} {xs : List V} {ds : List PyData} : DAt K H x d → DsAt K H xs ds → DsAt K H (x :: xs) (d :: ds)
end
section
variable {X : Cx} {pins : List (Addr × Obj)} {σ : St} {H : Hp} {s : Shared}
mutual
theorem DAt.reads (I : Inv X pins σ H s) : ∀ {x : V} {d : PyData} {u : Value}, DAt X.K H x d → RelV x u → ∃ as, Reads s.heap u d as
  | _, _, _, .non, r => by
    cases r
    exact ⟨_, .none⟩
  | _, _, _, .bl b, r => by
    cases r
    exact ⟨_, .bool b⟩
  | _, _, _, .int i, r => by
    obtain ⟨t, rfl⟩ := r
    exact ⟨_, .int i t⟩
  | _, _, _, .str x, r => by
    obtain ⟨t, rfl⟩ := r
    exact ⟨_, .str x t⟩
  | _, _, _, .lst hq ds, r => by
    cases r
    obtain ⟨its, rv, p, _⟩ := I.list hq
    obtain ⟨as, ra⟩ := DsAt.reads I ds rv
    obtain ⟨o, h1, h2, n, h3⟩ := p.isList
    exact ⟨_, .list h1 h2 h3 (by simpa using ra)⟩
  | _, _, _, .tup hq ds, r => by
    cases r
    obtain ⟨its, rv, p, _⟩ := I.tuple hq
    obtain ⟨as, ra⟩ := DsAt.reads I ds rv
    obtain ⟨o, h1, h2, n, h3⟩ := p
    exact ⟨_, .tuple h1 h2 h3 (by simpa using ra)⟩
theorem DsAt.reads (I : Inv X pins σ H s) : ∀ {xs : List V} {ds : List PyData} {us : List Value}, DsAt X.K H xs ds → Vals xs us → ∃ as, ReadsAll s.heap us ds as
  | _, _, _, .nil, r => by
    cases r
    exact ⟨_, .nil⟩
  | _, _, _, .cons d ds, r => by
    cases r with
    | cons r rs =>
      obtain ⟨as, ra⟩ := DAt.reads I d r
      obtain ⟨bs, rb⟩ := DsAt.reads I ds rs
      exact ⟨_, .cons ra rb⟩
end

def DOk (d : PyData) : Prop := d.canLay0 = true ∧ d.depth ≤ 40
def rEqD (K : PySem.W.Frag) (neg : Bool) : R2 := fun x y H Q => ∃ dx dy, DAt K H x dx ∧ DAt K H y dy ∧ DOk dx ∧ DOk dy ∧ Q (.bl (if neg then !PyData.eqv dx dy else PyData.eqv dx dy)) H
theorem op_eqD (hu : X.A.units + 64 < cLine) : OpR X (compareOp .Eq) (rEqD X.K false) := by
  intro pins s σ H x y v u Q I rx ry h
  obtain ⟨dx, dy, ax, ay, okx, oky, q⟩ := h
  obtain ⟨as, r1⟩ := ax.reads I rx
  obtain ⟨bs, r2⟩ := ay.reads I ry
  refine SeqAt.compareEq_reads r1 r2 okx.1 oky.1 ?_ (fin_bl I q rfl)
  have h1 := okx.2
  have h2 : min dx.depth dy.depth ≤ dx.depth := Nat.min_le_left _ _
  omega
theorem op_neD (hu : X.A.units + 64 < cLine) : OpR X (compareOp .NotEq) (rEqD X.K true) := by
  intro pins s σ H x y v u Q I rx ry h
  obtain ⟨dx, dy, ax, ay, okx, oky, q⟩ := h
  obtain ⟨as, r1⟩ := ax.reads I rx
  obtain ⟨bs, r2⟩ := ay.reads I ry
  refine SeqAt.compareNe_reads r1 r2 okx.1 oky.1 ?_ (fin_bl I q rfl)
  have h1 := okx.2
  have h2 : min dx.depth dy.depth ≤ dx.depth := Nat.min_le_left _ _
  omega
def rInD (K : PySem.W.Frag) (neg : Bool) : R2 := fun x y H Q => ∃ p xs dx ds, y = .ref p ∧ (SqL K H p xs ∨ SqT K H p xs) ∧ DsAt K H xs ds ∧ DAt K H x dx ∧ DOk dx ∧ PyData.canLayAll0 ds = true ∧
  Q (.bl (if neg then !(ds.any fun d => PyData.eqv d dx) else ds.any fun d => PyData.eqv d dx)) H
def rCat0 (K : PySem.W.Frag) : R2 := fun x y H Q => ∃ a b ys, x = .ref a ∧ y = .ref b ∧ SqT K H a [] ∧ SqT K H b ys ∧ Q (.ref b) H
theorem op_cat0 : OpR X (binaryOp .Add) (rCat0 X.K) := by
  intro pins s σ H x y v u Q I rx ry h
  obtain ⟨a, b, ys, rfl, rfl, ha, hb, q⟩ := h
  cases rx
  cases ry
  obtain ⟨us, ru, pu, _⟩ := I.tuple ha
  obtain ⟨ws, rw', pw, _⟩ := I.tuple hb
  cases ru
  obtain ⟨⟨cls, dd, data, sl⟩, ho, hc, n, hd⟩ := id pu
  obtain ⟨⟨cls2, dd2, data2, sl2⟩, ho2, hc2, n2, hd2⟩ := id pw
  simp only at hc hd hc2 hd2
  subst hc hd hc2 hd2
  have st := tuple_addW0 a b ([] : List Value).toArray ws.toArray n n2 dd dd2 sl sl2 (by simp)
  exact concat_meets ⟨_, ho, rfl⟩ ⟨_, ho2, rfl⟩ noFill_tuple_add seq_tuple_add PySem.F.slot_tuple_add PySem.F.entry_tuple_add (PySem.F.args_tuple_add_2 _ _) st ⟨ho, ho2, ⟨.ref b, H, I, rfl, q⟩⟩

def rCatN (K : PySem.W.Frag) : R2 := fun x y H Q => ∃ a b xs ys, x = .ref a ∧ y = .ref b ∧ SqT K H a xs ∧ H b = some (.tup ys) ∧ ys ≠ [] ∧ xs.length + ys.length ≤ sizeLine ∧ ∀ p H', Same H H' → H' p = some (.tup (xs ++ ys)) → Q (.ref p) H'
def TSame (H H' : Hp) : Prop := ∀ b xs, H b = some (.tup xs) → H' b = some (.tup xs)
theorem Same.tups {H H' : Hp} (s : Same H H') : TSame H H' := fun b xs e => s b _ e
theorem TSame.trans {H H1 H2 : Hp} (a : TSame H H1) (b : TSame H1 H2) : TSame H H2 := fun c xs e => b c xs (a c xs e)
theorem TSame.upd_lst {H H' : Hp} {a : Addr} {ys : List V} {o : HO} (s : TSame H H') (h : H' a = some (.lst ys)) : TSame H (upd H' a o) := fun b xs e => by
  have q := s b xs e
  rw [upd_ne (ne_of q h (by intro z; cases z))]
  exact q
end
end L2
namespace L2
open PySem PySem.Spec PyProof.Rows
open AutoSeq1 (wpAny_loadPart')

section
variable {prog : Program} {w : World} {A : Around} {E : Value → Shared → Prop} {s : Shared}
end
section
variable {X : Cx} {pins : List (Addr × Obj)} {σ : St} {H : Hp} {s : Shared}

theorem Inv.turnedT {h' : Heap} {t' : Nat} {ch : List Addr} {T : Addr} {o : HO} (I : Inv X pins σ H s) (hc : ∀ b ∈ ch, FpOk X pins H b) (k : ∀ b u, b ∉ ch → s.heap.get? b = some u → h'.get? b = some u) (hT : s.heap.objs.size ≤ T) (new : ObjOk X.prog X.w (upd H T o) h' T o) :
    Inv X pins σ (upd H T o) { s with heap := h', toks := t' } := by
  have hn : H T = none := I.hok.fresh hT
  have nT : ∀ b u, s.heap.get? b = some u → b ≠ T := fun b u e => Nat.ne_of_lt (Nat.lt_of_lt_of_le (Heap.lt_size e) hT)
  have nc : ∀ b u, H b = some u → b ∉ ch := fun b u e z => by
    have := (hc b z).1
    rw [e] at this
    cases this
  refine I.step (g' := s.gens) (d' := s.drawn) (ch := ch) (fun b hb => ⟨(hc b hb).2.2.2.1, (hc b hb).2.1, (hc b hb).2.2.2.2.1, (hc b hb).2.2.2.2.2⟩) (fun b u _ _ z e _ => k b u z e) (fun b u _ _ z e _ => ⟨u.slots, k b u z e⟩)
    (fun b u _ e n => by rw [upd_ne (nT b u e)]; exact n) (fun b u z e => ⟨u, k b u z e⟩) (fun b xs q => by rw [upd_ne (ne_of_none q hn)]; exact q) (fun b u xs q => by rw [upd_ne (ne_of_none q hn)]; exact q)
    (fun b ps q => ⟨#[], by rw [upd_ne (ne_of_none q hn), q]; simp⟩) (fun m hm => ?_) (fun b u e => ?_) I.bare
  · obtain ⟨u, es, ep, ho, r⟩ := hm
    exact ⟨u, es, ep, k _ u (fun z => (hc _ z).2.1 rfl) ho, r⟩
  · by_cases hb : b = T
    · subst hb
      rw [upd_same] at e
      cases e
      exact new
    · rw [upd_ne hb] at e
      refine (I.hok b u e).stay (fun c v z q => k c v ?_ q) (fun c q => by rw [upd_ne (ne_of_none q hn)]; exact q) fun c xs q => by rw [upd_ne (ne_of_none q hn)]; exact q
      rcases z with z | z
      · rw [z]; exact nc b u e
      · exact nc c _ z
theorem Inv.turnedL {h' : Heap} {t' : Nat} {ch : List Addr} (I : Inv X pins σ H s) (hc : ∀ b ∈ ch, FpOk X pins H b) (k : ∀ b u, b ∉ ch → s.heap.get? b = some u → h'.get? b = some u) : Inv X pins σ H { s with heap := h', toks := t' } := by
  have nc : ∀ b u, H b = some u → b ∉ ch := fun b u e z => by
    have := (hc b z).1
    rw [e] at this
    cases this
  refine I.step (g' := s.gens) (d' := s.drawn) (ch := ch) (fun b hb => ⟨(hc b hb).2.2.2.1, (hc b hb).2.1, (hc b hb).2.2.2.2.1, (hc b hb).2.2.2.2.2⟩) (fun b u _ _ z e _ => k b u z e) (fun b u _ _ z e _ => ⟨u.slots, k b u z e⟩)
    (fun b u _ e n => n) (fun b u z e => ⟨u, k b u z e⟩) (fun b xs q => q) (fun b u xs q => q) (fun b ps q => ⟨#[], by rw [q]; simp⟩) (fun m hm => ?_) (fun b u e => ?_) I.bare
  · obtain ⟨u, es, ep, ho, r⟩ := hm
    exact ⟨u, es, ep, k _ u (fun z => (hc _ z).2.1 rfl) ho, r⟩
  · refine (I.hok b u e).stay (fun c v z q => k c v ?_ q) (fun c q => q) fun c xs q => q
    rcases z with z | z
    · rw [z]; exact nc b u e
    · exact nc c _ z
end

def Ite (K : PySem.W.Frag) (a : Addr) : It :=
  ⟨fun i H => ∃ xs x, SqT K H a xs ∧ xs[i]? = some x, fun i H v H' => ∃ p x, v = .ref p ∧ H p = none ∧ H' = upd H p (.tup [.int i, x]) ∧ ∀ xs, SqT K H a xs → xs[i]? = some x, fun i H => ∃ xs, SqT K H a xs ∧ xs.length ≤ i⟩
def iEnum (K : PySem.W.Frag) (ta : TA) : TI := fun σ H R => ta σ H fun vs H1 => ∃ a, vs = [.ref a] ∧ (∃ xs, SqT K H1 a xs) ∧ R (Ite K a) H1
end L2
namespace L2
open PySem PySem.Spec PyProof.Rows
end L2
namespace L2
open PySem PySem.Spec PyProof.Rows

section
variable {X : Cx}
def rCat1 (K : PySem.W.Frag) : R2 := fun x y H Q => ∃ a b xs ys, x = .ref a ∧ y = .ref b ∧ H a = some (.tup xs) ∧ SqT K H b ys ∧ xs ≠ [] ∧ xs.length + ys.length ≤ sizeLine ∧ ∀ p H', Same H H' → H' p = some (.tup (xs ++ ys)) → Q (.ref p) H'
theorem op_cat1 : OpR X (binaryOp .Add) (rCat1 X.K) := by
  intro pins s σ H x y v u Q I rx ry h
  obtain ⟨a, b, xs, ys, rfl, rfl, ha, hb, hx, hz, q⟩ := h
  exact op_catT pins s σ H _ _ v u Q I rx ry ⟨a, b, xs, ys, rfl, rfl, SqT.of ha, hb, hx, hz, fun z => q a H (Same.refl H) (by subst z; rw [List.append_nil]; exact ha), fun _ p hp => q p _ ((Same.refl H).upd_free hp) upd_same⟩
end
end L2
namespace L2
open PySem PySem.Spec PyProof.Rows

section
variable {X : Cx}
def tCutE (t : TE) : TE := fun σ H Q => ∃ M : V → Hp → Prop, t σ H M ∧ ∀ v H', M v H' → Q v H'
def tCutT (t : TT) : TT := fun σ H Q => ∃ M : Bool → Hp → Prop, t σ H M ∧ ∀ b H', M b H' → Q b H'
theorem pt_cut {e : Expr} {t : TT} (h : PT X e t) : PT X e (tCutT t) := by
  intro pins s σ H Q I ⟨M, h1, h2⟩
  exact thn (h pins s σ H M I h1) fun b s' ⟨H', I', m⟩ => ⟨H', I', h2 b H' m⟩

def rCatA (K : PySem.W.Frag) : R2 := fun x y H Q => ∃ a b xs ys, x = .ref a ∧ y = .ref b ∧ H a = some (.tup xs) ∧ H b = some (.tup ys) ∧ xs.length + ys.length ≤ sizeLine ∧ ∀ p H', Same H H' → H' p = some (.tup (xs ++ ys)) → Q (.ref p) H'
theorem op_catA : OpR X (binaryOp .Add) (rCatA X.K) := by
  intro pins s σ H x y v u Q I rx ry h
  obtain ⟨a, b, xs, ys, rfl, rfl, ha, hb, hz, q⟩ := h
  by_cases hx : xs = []
  · subst hx
    exact op_cat0 pins s σ H _ _ v u Q I rx ry ⟨a, b, ys, rfl, rfl, SqT.of ha, SqT.of hb, q b H (Same.refl H) hb⟩
  · exact op_cat1 pins s σ H _ _ v u Q I rx ry ⟨a, b, xs, ys, rfl, rfl, ha, SqT.of hb, hx, hz, q⟩
end
end L2
namespace K20
open PySem L2

abbrev Rms := List (Bool × List Int)
def nextOf (rs : Rms) (h l : Int) : Int := ((rs.getD h.toNat (false, [])).2).getD l.toNat 0
def walkM (rs : Rms) (h : Int) (run : List Int) : Int := run.foldl (nextOf rs) h
structure Good (many : Int) (rs : Rms) : Prop where
  mn : 0 ≤ many ∧ many ≤ 8
  pos : 0 < rs.length
  le : rs.length ≤ 100
  row : ∀ r ∈ rs, (r.2.length : Int) = many ∧ ∀ n ∈ r.2, 0 ≤ n ∧ n < (rs.length : Int)
def RowsAt (H : Hp) (qs : List Addr) (rs : Rms) : Prop := qs.length = rs.length ∧ ∀ (i : Nat) (r : Bool × List Int), rs[i]? = some r → ∃ q z, qs[i]? = some q ∧ H q = some (.tup [.bl r.1, .ref z]) ∧ H z = some (.tup (r.2.map V.int))
def MAt (H : Hp) (a : Addr) (many : Int) (rs : Rms) : Prop := ∃ p qs, H a = some (.tup [.int many, .ref p]) ∧ H p = some (.tup (qs.map V.ref)) ∧ RowsAt H qs rs
theorem RowsAt.same {H H' : Hp} {qs : List Addr} {rs : Rms} (h : RowsAt H qs rs) (s : Same H H') : RowsAt H' qs rs := ⟨h.1, fun i r e => by
  obtain ⟨q, z, h1, h2, h3⟩ := h.2 i r e
  exact ⟨q, z, h1, s _ _ h2, s _ _ h3⟩⟩
theorem MAt.same {H H' : Hp} {a : Addr} {many : Int} {rs : Rms} (h : MAt H a many rs) (s : Same H H') : MAt H' a many rs := by
  obtain ⟨p, qs, h1, h2, h3⟩ := h
  exact ⟨p, qs, s _ _ h1, s _ _ h2, h3.same s⟩
theorem getD_of {α : Type} {l : List α} {i : Nat} {x d : α} (h : l[i]? = some x) : l.getD i d = x := by simp [List.getD, h]
theorem some_at {α : Type} (l : List α) (i : Int) (h0 : 0 ≤ i) (h : i < (l.length : Int)) : ∃ x, l[i.toNat]? = some x := by
  have h' : i.toNat < l.length := by omega
  exact ⟨l[i.toNat], by simp [h']⟩
theorem next_in {many : Int} {rs : Rms} (G : Good many rs) {h l : Int} (h0 : 0 ≤ h) (h1 : h < rs.length) (l0 : 0 ≤ l) (l1 : l < many) : 0 ≤ nextOf rs h l ∧ nextOf rs h l < (rs.length : Int) := by
  obtain ⟨r, er⟩ := some_at rs h h0 h1
  have hr := G.row r (List.mem_of_getElem? er)
  obtain ⟨n, en⟩ := some_at r.2 l l0 (by rw [hr.1]; exact l1)
  unfold nextOf
  rw [getD_of er, getD_of en]
  exact hr.2 n (List.mem_of_getElem? en)
def spRB : Sp := fun vs H Q _ => ∃ (a p : Addr) (h many : Int) (rs : Rms) (run : List Int), vs = [.ref a, .int h, .ref p] ∧ MAt H a many rs ∧ Good many rs ∧ 0 ≤ h ∧ h < rs.length ∧ H p = some (.tup (run.map V.int)) ∧ (∀ l ∈ run, 0 ≤ l ∧ l < many) ∧ Q (.int (walkM rs h run)) H
def spLB : Sp := fun vs H Q _ => ∃ (a p : Addr) (many : Int) (rs : Rms) (run : List Int), vs = [.ref a, .ref p] ∧ MAt H a many rs ∧ Good many rs ∧ H p = some (.tup (run.map V.int)) ∧ (∀ l ∈ run, 0 ≤ l ∧ l < many) ∧ Q (.bl (rs.getD (walkM rs 0 run).toNat (false, [])).1) H
def spWh : Sp := fun vs H Q _ => ∃ i : Int, vs = [.int i] ∧ Q (.bl true) H
def spCe (K : PySem.W.Frag) : Sp := fun vs H Q _ => ∃ (a : Addr) (ns : List Int) (k : Int), vs = [.ref a, .int k] ∧ SqL K H a (ns.map V.int) ∧ 0 ≤ k ∧ k ≤ 2000 ∧ ∀ (z : Int) (H' : Hp), Same H H' → Q (.int z) H'
def spMa (K : PySem.W.Frag) : Sp := fun vs H Q _ => ∃ (a : Addr) (ns : List Int), vs = [.ref a, .int 0, .int 12] ∧ SqL K H a (ns.map V.int) ∧ ∀ (m : Addr) (many : Int) (rs : Rms) (H' : Hp), Same H H' → MAt H' m many rs → Good many rs → Q (.ref m) H'
def spRu : Sp := fun vs H Q _ => ∃ (c many most : Int), vs = [.int c, .int many, .int most] ∧ 0 ≤ many ∧ many ≤ 8 ∧ 0 ≤ most ∧ most ≤ 200 ∧ ∀ (p : Addr) (run : List Int) (H' : Hp), Same H H' → H' p = some (.tup (run.map V.int)) → (∀ l ∈ run, 0 ≤ l ∧ l < many) → Q (.ref p) H'
def spLaw (K : PySem.W.Frag) : Sp := fun vs H Q _ => ∃ (a : Addr) (ns : List Int), vs = [.ref a] ∧ SqL K H a (ns.map V.int) ∧ ns.length ≤ 63 ∧ ∀ H', Q (.bl true) H'

theorem ints_flat (ns : List Int) : (ns.map V.int).all flatV = true := by
  rw [List.all_map]
  exact List.all_eq_true.mpr fun _ _ => rfl
end K20
namespace K21
open K20

def bef (a b : List Int) : Bool := if a.length = b.length then HT.lexLt a b else decide (a.length < b.length)
abbrev Ent := Int × List Int
structure BInv (rs : Rms) (many : Int) (fs : List Ent) (d : Nat) : Prop where
  hd : fs[0]? = some (0, [])
  nd : (fs.map (·.1)).Nodup
  ok : ∀ e ∈ fs, 0 ≤ e.1 ∧ e.1 < (rs.length : Int) ∧ (∀ l ∈ e.2, 0 ≤ l ∧ l < many) ∧ walkM rs 0 e.2 = e.1
  inc : fs.Pairwise fun a b => bef a.2 b.2 = true
  src : ∀ e ∈ fs, e.2 = [] ∨ ∃ (i : Nat) (e' : Ent) (l : Int), i < d ∧ fs[i]? = some e' ∧ e.2 = e'.2 ++ [l]
  cov : ∀ (i : Nat) (e : Ent), i < d → fs[i]? = some e → ∀ l : Int, 0 ≤ l → l < many → ∃ e' ∈ fs, e'.1 = nextOf rs e.1 l ∧ bef (e.2 ++ [l]) e'.2 = false
  ln : ∀ (i : Nat) (e : Ent), fs[i]? = some e → e.2.length ≤ i
structure VInv (rs : Rms) (many : Int) (fs : List Ent) (d : Nat) (e0 : Ent) (j : Nat) : Prop where
  pl : fs[d]? = some e0
  hd : fs[0]? = some (0, [])
  nd : (fs.map (·.1)).Nodup
  ok : ∀ e ∈ fs, 0 ≤ e.1 ∧ e.1 < (rs.length : Int) ∧ (∀ l ∈ e.2, 0 ≤ l ∧ l < many) ∧ walkM rs 0 e.2 = e.1
  inc : fs.Pairwise fun a b => bef a.2 b.2 = true
  src : ∀ e ∈ fs, e.2 = [] ∨ (∃ (i : Nat) (e' : Ent) (l : Int), i < d ∧ fs[i]? = some e' ∧ e.2 = e'.2 ++ [l]) ∨ ∃ l : Int, l < j ∧ e.2 = e0.2 ++ [l]
  cov : ∀ (i : Nat) (e : Ent), i < d → fs[i]? = some e → ∀ l : Int, 0 ≤ l → l < many → ∃ e' ∈ fs, e'.1 = nextOf rs e.1 l ∧ bef (e.2 ++ [l]) e'.2 = false
  cov2 : ∀ l : Int, 0 ≤ l → l < j → ∃ e' ∈ fs, e'.1 = nextOf rs e0.1 l ∧ bef (e0.2 ++ [l]) e'.2 = false
  ln : ∀ (i : Nat) (e : Ent), fs[i]? = some e → e.2.length ≤ i
theorem filter_len : ∀ (l : List Int) (x : Int), l.Nodup → l.length ≤ (l.filter fun y => decide (y ≠ x)).length + 1
  | [], _, _ => Nat.zero_le _
  | a :: l, x, h => by
    obtain ⟨h1, h2⟩ := List.nodup_cons.mp h
    by_cases e : a = x
    · subst e
      have q : (l.filter fun y => decide (y ≠ a)) = l := List.filter_eq_self.mpr fun y hy => decide_eq_true fun z => h1 (z ▸ hy)
      rw [List.filter_cons_of_neg (by simp), q]
      simp
    · rw [List.filter_cons_of_pos (by simpa using e)]
      have := filter_len l x h2
      simp only [List.length_cons]
      omega
theorem nodup_le : ∀ (n : Nat) (l : List Int), l.Nodup → (∀ x ∈ l, 0 ≤ x ∧ x < (n : Int)) → l.length ≤ n
  | 0, l, _, h => by
    cases l with
    | nil => exact Nat.le_refl _
    | cons a l =>
      have := h a List.mem_cons_self
      omega
  | n + 1, l, nd, h => by
    have q := filter_len l n nd
    have r := nodup_le n (l.filter fun y => decide (y ≠ (n : Int))) (nd.sublist List.filter_sublist) fun x hx => by
      obtain ⟨h1, h2⟩ := List.mem_filter.mp hx
      have h3 := h x h1
      have h4 : x ≠ (n : Int) := of_decide_eq_true h2
      omega
    omega
def visit (w : List Int) : List Int → Nat → List Ent → List Ent
  | [], _, fs => fs
  | t :: ts, j, fs => visit w ts (j + 1) (if t ∈ fs.map (·.1) then fs else fs ++ [(t, w ++ [(j : Int)])])
def bfs (rs : Rms) : Nat → Nat → List Ent → List Ent
  | 0, _, fs => fs
  | n + 1, d, fs => match fs[d]? with
    | none => fs
    | some e => bfs rs n (d + 1) (visit e.2 (rs.getD e.1.toNat (false, [])).2 0 fs)
def waysM (rs : Rms) : List Ent := bfs rs (rs.length + 1) 0 [(0, [])]
end K21
namespace K21
open PySem L2 K20
def PairsAt (H : Hp) (qs : List Addr) (fs : List Ent) : Prop := qs.length = fs.length ∧ ∀ (i : Nat) (e : Ent), fs[i]? = some e → ∃ q z, qs[i]? = some q ∧ H q = some (.tup [.int e.1, .ref z]) ∧ H z = some (.tup (e.2.map V.int))
def keysT (fs : List Ent) : List (Key × V) := fs.map fun e => ((Sum.inl e.1 : Key), V.bl true)
def spWy : Sp := fun vs H Q _ => ∃ (a : Addr) (many : Int) (rs : Rms), vs = [.ref a] ∧ MAt H a many rs ∧ Good many rs ∧
  ∀ (p : Addr) (qs : List Addr) (H' : Hp), Same H H' → H' p = some (.tup (qs.map V.ref)) → PairsAt H' qs (waysM rs) → BInv rs many (waysM rs) (waysM rs).length → Q (.ref p) H'
end K21
namespace K60
open K20 K21

def gd (rs : Rms) (n : Int) : Bool := (rs.getD n.toNat (false, [])).1
def Lts (many : Int) (run : List Int) : Prop := ∀ l ∈ run, 0 ≤ l ∧ l < many
def Rch (rs : Rms) (many a b : Int) : Prop := ∃ run, Lts many run ∧ walkM rs a run = b
theorem Lts.nil {many : Int} : Lts many [] := fun l hl => by simp at hl
theorem Lts.cons {many l : Int} {run : List Int} (l0 : 0 ≤ l) (l1 : l < many) (h : Lts many run) : Lts many (l :: run) := fun x hx => by
  rcases List.mem_cons.mp hx with hx | hx
  · subst hx
    exact ⟨l0, l1⟩
  · exact h x hx
theorem Lts.head {many l : Int} {run : List Int} (h : Lts many (l :: run)) : 0 ≤ l ∧ l < many := h l List.mem_cons_self
theorem Lts.tail {many l : Int} {run : List Int} (h : Lts many (l :: run)) : Lts many run := fun x hx => h x (List.mem_cons_of_mem _ hx)
structure HB (rs : Rms) (many a : Int) (fs : List Int) (d : Nat) : Prop where
  hd : a ∈ fs
  nd : fs.Nodup
  ok : ∀ x ∈ fs, 0 ≤ x ∧ x < (rs.length : Int) ∧ Rch rs many a x
  cov : ∀ (i : Nat) (x : Int), i < d → fs[i]? = some x → ∀ l : Int, 0 ≤ l → l < many → nextOf rs x l ∈ fs
structure HV (rs : Rms) (many a : Int) (fs : List Int) (d : Nat) (x0 : Int) (j : Nat) : Prop where
  pl : fs[d]? = some x0
  hd : a ∈ fs
  nd : fs.Nodup
  ok : ∀ x ∈ fs, 0 ≤ x ∧ x < (rs.length : Int) ∧ Rch rs many a x
  cov : ∀ (i : Nat) (x : Int), i < d → fs[i]? = some x → ∀ l : Int, 0 ≤ l → l < many → nextOf rs x l ∈ fs
  cov2 : ∀ l : Int, 0 ≤ l → l < j → nextOf rs x0 l ∈ fs
structure KI (rs : Rms) (many : Int) (ks : List Ent) : Prop where
  nd : (ks.map (·.1)).Nodup
  ok : ∀ (i : Nat) (e : Ent), ks[i]? = some e → 0 ≤ e.1 ∧ e.1 < (rs.length : Int) ∧ Lts many e.2 ∧ gd rs (walkM rs e.1 e.2) = true ∧ e.2.length ≤ i ∧ (gd rs e.1 = true → e.2 = [])
structure KDone (rs : Rms) (many : Int) (ks : List Ent) : Prop where
  ki : KI rs many ks
  goods : ∀ n : Int, 0 ≤ n → n < (rs.length : Int) → gd rs n = true → n ∈ ks.map (·.1)
  shut : ∀ n : Int, 0 ≤ n → n < (rs.length : Int) → n ∉ ks.map (·.1) → ∀ l : Int, 0 ≤ l → l < many → nextOf rs n l ∉ ks.map (·.1)
end K60
namespace L2
open PySem PySem.Spec PyProof.Rows

section
variable {X : Cx}

def manyI (ns : List Int) : Nat := (firstMet (fun i => ns.getD i 0) ns.length).length
def inI (ns : List Int) : Int → Bool := fun k => (firstMet (fun i => ns.getD i 0) ns.length).any (· == k)
def tRev (K : PySem.W.Frag) (te ts : TE) : TE := fun σ H Q => te σ H fun x H1 => ts σ H1 fun k H2 => ∃ a xs, k = .int (-1) ∧ x = .ref a ∧ SqL K H2 a xs ∧ ∀ p, H2 p = none → Q (.ref p) (upd H2 p (.lst xs.reverse))
end
theorem range_getD (ns : List Int) : (List.range ns.length).map (fun i => ns.getD i 0) = ns := by
  apply List.ext_getElem
  · simp
  · intro i h1 h2
    have h3 : i < ns.length := h2
    simp [List.getD, h3]
theorem first_nodup : ∀ (ns σ : List Int), σ.Nodup → (ns.foldl step_dedup σ).Nodup
  | [], σ, h => h
  | v :: ns, σ, h => by
    refine first_nodup ns _ ?_
    unfold step_dedup
    split
    · exact h
    · rename_i hn
      rw [List.nodup_append]
      refine ⟨h, by simp, fun x hx y hy => ?_⟩
      rw [List.mem_singleton] at hy
      intro z
      subst hy z
      exact hn (List.any_eq_true.mpr ⟨_, hx, by simp⟩)
theorem inI_iff (ns : List Int) (k : Int) : inI ns k = true ↔ k ∈ ns := by
  unfold inI
  rw [firstMet_any, range_getD, List.any_eq_true]
  exact ⟨fun ⟨x, hx, e⟩ => by rw [beq_iff_eq] at e; rwa [← e], fun h => ⟨k, h, by simp⟩⟩

end L2
namespace L2
open PySem PySem.Spec PyProof.Rows


def Itz (K : PySem.W.Frag) (a b : Addr) : It :=
  ⟨fun i H => ∃ xs ys x y, SqL K H a xs ∧ SqL K H b ys ∧ xs[i]? = some x ∧ ys[i]? = some y, fun i H v H' => ∃ p x y, v = .ref p ∧ H p = none ∧ H' = upd H p (.tup [x, y]) ∧ (∀ xs, SqL K H a xs → xs[i]? = some x) ∧ ∀ ys, SqL K H b ys → ys[i]? = some y,
    fun i H => ∃ xs ys, SqL K H a xs ∧ SqL K H b ys ∧ xs.length ≤ i⟩
theorem zip_apart (n l m : Nat) (h1 : l < n) (h2 : m < n) : ZipApart (n + 4) (n + 2) (n + 3) n (n + 1) l m := by
  constructor <;> (show @Ne Nat _ _; omega)
def iZip (K : PySem.W.Frag) (ta : TA) : TI := fun σ H R => ta σ H fun vs H1 => ∃ a b, vs = [.ref a, .ref b] ∧ (∃ xs, SqL K H1 a xs) ∧ (∃ ys, SqL K H1 b ys) ∧ R (Itz K a b) H1
theorem boot_zip : bootBuiltins "zip" = some (.type "zip") := by decide +kernel

end L2
namespace L2
open PySem PySem.Spec PyProof.Rows


structure Src (prog : Program) (w : World) (it l : Addr) (J : Nat → Heap → Prop) (C : Array Value → Heap → Prop) : Prop where
  item : ∀ (A : Around) (E : Value → Shared → Prop) (s : Shared) (k : Nat) (xs : Array Value) (x : Value) (Q : Value → Shared → Prop), J k s.heap → C xs s.heap → xs[k]? = some x → (∀ h', J (k + 1) h' → Heap.SameBut it s.heap h' → Q x { s with heap := h' }) → wpAny (model prog w) A (Builtin.SmallTypes.nextOf (.ref it)) Q E s
  stop : ∀ (A : Around) (E : Value → Shared → Prop) (s : Shared) (k : Nat) (xs : Array Value) (Q : Value → Shared → Prop), A.handled = none → J k s.heap → C xs s.heap → xs[k]? = none → (∀ h' e, Heap.ExtBut it s.heap h' → (∃ o, h'.get? e = some o ∧ o.cls = .type "StopIteration") → E (.ref e) { s with heap := h' }) → wpAny (model prog w) A (Builtin.SmallTypes.nextOf (.ref it)) Q E s
  keep : ∀ k h h', J k h → (∀ o, h.get? it = some o → h'.get? it = some o) → J k h'
  seq : ∀ xs h h', C xs h → (∀ o, h.get? l = some o → h'.get? l = some o) → C xs h'
  obj : ∀ k h, J k h → ∃ o vs, h.get? it = some o ∧ o.data = .fields vs
theorem src_list {prog : Program} {w : World} (it l : Addr) : Src prog w it l (fun k h => h.IsListIter it l k) (fun xs h => h.IsList l xs) where
  item := fun A E s k xs x Q j c e q => wpAny_nextOf_list_item j c e q
  stop := fun A E s k xs Q hh j c e q => wpAny_nextOf_list_end hh j c e q
  keep := fun k h h' ⟨o, g, r⟩ f => ⟨o, f o g, r⟩
  seq := fun xs h h' ⟨o, g, r⟩ f => ⟨o, f o g, r⟩
  obj := fun k h ⟨o, g, _, r⟩ => ⟨o, _, g, r⟩
section
variable {prog : Program} {w : World} {A : Around} {E : Value → Shared → Prop} {s : Shared}
theorem next_tup {it t : Addr} {i : Nat} {items : Array Value} {x : Value} {Q : Value → Shared → Prop} (hit : s.heap.IsTupleIter it t i) (ht : s.heap.IsTuple t items) (hx : items[i]? = some x)
    (q : ∀ h', h'.IsTupleIter it t (i + 1) → Heap.SameBut it s.heap h' → Q x { s with heap := h' }) : wpAny (model prog w) A (Builtin.SmallTypes.nextOf (.ref it)) Q E s := by
  obtain ⟨o, g, c, d⟩ := id hit
  obtain ⟨ol, gl, _, nl, dl⟩ := ht
  unfold Builtin.SmallTypes.nextOf
  refine wpAny_bind (wpAny_callSpecial?_slot (name := Str.ofString "__next__") hit.typeIs PySem.F.slot_tuple_iterator_next (wpAny_call_entry PySem.F.slot_tuple_iterator_next hit.typeIs PySem.F.entry_tuple_iterator_next ?_ (PySem.F.args_tuple_iterator_next_1 _)))
  show wpAny _ _ (field (.ref it) 0 >>= _) _ _ _
  refine wpAny_bind (wpAny_field g d (x := .ref t) rfl ?_)
  show wpAny _ _ (if (Value.ref t == Value.none) = true then _ else _) _ _ _
  rw [if_neg (show ¬ ((Value.ref t == Value.none) = true) by exact Bool.false_ne_true)]
  show wpAny _ _ (field (.ref it) 1 >>= _) _ _ _
  refine wpAny_bind (wpAny_field g d (x := .int i 0) rfl ?_)
  show wpAny _ _ (seqItems? (.ref t) >>= _) _ _ _
  refine wpAny_bind (wpAny_seqItems gl dl ?_)
  simp only [Int.toNat_natCast, hx]
  refine wpAny_bind (wpAny_setField g d (by simp) (wpAny_pure ⟨x, rfl, wpAny_pure (q _ ?_ (Heap.SameBut.update ..))⟩))
  exact ⟨_, Heap.get?_update_self _ g (Obj.isFreed_of_fields (Obj.data_mapFields d _)), (Obj.cls_mapFields ..).trans c, by rw [Obj.data_mapFields d]; simp [rawInt]⟩
theorem next_tup_end {it t : Addr} {i : Nat} {items : Array Value} {Q : Value → Shared → Prop} (hh : A.handled = none) (hit : s.heap.IsTupleIter it t i) (ht : s.heap.IsTuple t items) (hx : items[i]? = none)
    (q : ∀ h' e, Heap.ExtBut it s.heap h' → (∃ o, h'.get? e = some o ∧ o.cls = .type "StopIteration") → E (.ref e) { s with heap := h' }) : wpAny (model prog w) A (Builtin.SmallTypes.nextOf (.ref it)) Q E s := by
  obtain ⟨o, g, c, d⟩ := id hit
  obtain ⟨ol, gl, _, nl, dl⟩ := ht
  unfold Builtin.SmallTypes.nextOf
  refine wpAny_bind (wpAny_callSpecial?_slot (name := Str.ofString "__next__") hit.typeIs PySem.F.slot_tuple_iterator_next (wpAny_call_entry PySem.F.slot_tuple_iterator_next hit.typeIs PySem.F.entry_tuple_iterator_next ?_ (PySem.F.args_tuple_iterator_next_1 _)))
  show wpAny _ _ (field (.ref it) 0 >>= _) _ _ _
  refine wpAny_bind (wpAny_field g d (x := .ref t) rfl ?_)
  show wpAny _ _ (if (Value.ref t == Value.none) = true then _ else _) _ _ _
  rw [if_neg (show ¬ ((Value.ref t == Value.none) = true) by exact Bool.false_ne_true)]
  show wpAny _ _ (field (.ref it) 1 >>= _) _ _ _
  refine wpAny_bind (wpAny_field g d (x := .int i 0) rfl ?_)
  show wpAny _ _ (seqItems? (.ref t) >>= _) _ _ _
  refine wpAny_bind (wpAny_seqItems gl dl ?_)
  simp only [Int.toNat_natCast, hx]
  refine wpAny_bind (wpAny_rule (wpAny_bind (wpAny_setField g d (by simp) ?_)))
  show wpAny _ _ (newExc (.type "StopIteration") [] >>= _) _ _ (_)
  refine wpAny_bind ?_
  simp only [newExc, newTuple]
  refine wpAny_bind (wpAny_newObj_type (by skip; refine wpAny_bind (m := firstArgMember _ _) (wpAny_of_eq (a := Value.none) (by first | rfl | (simp only [firstArgMember]; rfl)) ?_); refine wpAny_newObj_type ?_ (by size_fits); simp only [raiseNew]; refine wpAny_bind (wpAny_handled ?_); (first | rw [show A.in1.handled = none from hh] | rw [hh]); first | exact wpAny_throw (q _ _ (((Heap.SameBut.update ..).extBut.push _).push _) ⟨_, Heap.get?_push_size _ rfl, rfl⟩) | exact wpAny_bind (wpAny_pure (wpAny_throw (q _ _ (((Heap.SameBut.update ..).extBut.push _).push _) ⟨_, Heap.get?_push_size _ rfl, rfl⟩)))) (by size_fits))
end
theorem src_tup {prog : Program} {w : World} (it l : Addr) : Src prog w it l (fun k h => h.IsTupleIter it l k) (fun xs h => h.IsTuple l xs) where
  item := fun A E s k xs x Q j c e q => next_tup j c e q
  stop := fun A E s k xs Q hh j c e q => next_tup_end hh j c e q
  keep := fun k h h' ⟨o, g, r⟩ f => ⟨o, f o g, r⟩
  seq := fun xs h h' ⟨o, g, r⟩ f => ⟨o, f o g, r⟩
  obj := fun k h ⟨o, g, _, r⟩ => ⟨o, _, g, r⟩
end L2
namespace L2
open PySem PySem.Spec PyProof.Rows
section
variable {prog : Program} {w : World} {A : Around} {E : Value → Shared → Prop} {s : Shared}
variable {z TI TO i1 i2 l1 l2 : Addr} {J1 J2 : Nat → Heap → Prop} {C1 C2 : Array Value → Heap → Prop} {k1 k2 : Nat} {xs ys : Array Value} {x y a b : Value}
theorem zipg_item {Q : Value → Shared → Prop} (D : ZipApart z TI TO i1 i2 l1 l2) (S1 : Src prog w i1 l1 J1 C1) (S2 : Src prog w i2 l2 J2 C2) (gz : IsZip s.heap z TI TO .none) (gI : IsPair s.heap TI (.ref i1) (.ref i2)) (gO : IsPair s.heap TO a b)
    (j1 : J1 k1 s.heap) (j2 : J2 k2 s.heap) (c1 : C1 xs s.heap) (c2 : C2 ys s.heap) (hx : xs[k1]? = some x) (hy : ys[k2]? = some y)
    (q : ∀ h', IsZip h' z TI TO (rawInt s.heap.objs.size) → IsPair h' TO x y → J1 (k1 + 1) h' → J2 (k2 + 1) h' → IsPair h' s.heap.objs.size x y → h'.objs.size = s.heap.objs.size + 1 →
      (∀ c o, c ≠ z → c ≠ TO → c ≠ i1 → c ≠ i2 → s.heap.get? c = some o → h'.get? c = some o) → Q (.ref s.heap.objs.size) { s with heap := h' }) :
    wpAny (model prog w) A (Builtin.«zip.__next__» ⟨[.ref z], []⟩) (fun fin s' => ∃ v, fin = .done (.ret v) ∧ Q v s') E s := by
  show wpAny _ _ (field (.ref z) 2 >>= _) _ _ s
  refine wpAny_bind (wpAny_field gz rfl (x := .bool false) rfl ?_)
  show wpAny _ _ (field (.ref z) 3 >>= _) _ _ s
  refine wpAny_bind (wpAny_field gz rfl (x := .ref TI) rfl (wpAny_bind (wpAny_seqItems gI rfl ?_)))
  show wpAny _ _ (Builtin.SmallTypes.ownedTupleIsFree (.ref z) >>= _) _ _ s
  refine wpAny_bind ?_
  unfold Builtin.SmallTypes.ownedTupleIsFree
  refine wpAny_bind (wpAny_field gz rfl (x := .none) rfl (wpAny_pure ?_))
  simp only [if_true]
  refine wpAny_bind (wpAny_rule (wpAny_bind (wpAny_field gz rfl (x := .ref TO) rfl ?_)))
  refine wpAny_bind (wpAny_setField_rec gz (by simp) fun hA zA sA => ?_)
  replace zA : IsZip hA z TI TO .ellipsis := zA
  refine wpAny_bind ?_
  simp only [List.zipIdx_cons, List.zipIdx_nil, List.forIn_cons, List.forIn_nil]
  refine wpAny_bind (wpAny_bind (wpAny_onRaise ?_))
  show wpAny _ _ (Builtin.SmallTypes.nextOf (.ref i1) >>= _) _ _ (_)
  refine wpAny_bind (S1.item A _ _ k1 xs x _ (S1.keep _ _ _ j1 fun o e => sA.extBut _ _ D.i1z e) (S1.seq _ _ _ c1 fun o e => sA.extBut _ _ D.l1z e) hx fun hB jB sB => wpAny_pure ?_)
  have oB : IsPair hB TO a b := sB.extBut _ _ D.TOi1 (sA.extBut _ _ D.TOz gO)
  refine wpAny_bind (wpAny_seqItems oB rfl (wpAny_bind (wpAny_updateSeq_pair oB fun hC oC sC => ?_)))
  replace oC : IsPair hC TO x b := oC
  refine wpAny_bind (wpAny_letGo (wpAny_pure (wpAny_bind (wpAny_bind (wpAny_onRaise ?_)))))
  show wpAny _ _ (Builtin.SmallTypes.nextOf (.ref i2) >>= _) _ _ (_)
  have up2 : ∀ c o, c ≠ z → c ≠ i1 → c ≠ TO → s.heap.get? c = some o → hC.get? c = some o := fun c o n1 n2 n3 e => sC.extBut _ _ n3 (sB.extBut _ _ n2 (sA.extBut _ _ n1 e))
  refine wpAny_bind (S2.item A _ _ k2 ys y _ (S2.keep _ _ _ j2 fun o e => up2 _ o D.i2z D.i12.symm D.TOi2.symm e) (S2.seq _ _ _ c2 fun o e => up2 _ o D.l2z D.l2i1 D.l2TO e) hy fun hD jD sD => wpAny_pure ?_)
  have oD : IsPair hD TO x b := sD.extBut _ _ D.TOi2 oC
  refine wpAny_bind (wpAny_seqItems oD rfl (wpAny_bind (wpAny_updateSeq_pair oD fun hE oE sE => ?_)))
  replace oE : IsPair hE TO x y := oE
  refine wpAny_bind (wpAny_letGo (wpAny_pure (wpAny_pure ?_)))
  refine wpAny_bind (wpAny_seqItems oE rfl (wpAny_bind (wpAny_newTuple ?_)))
  have ez : hE.objs.size = s.heap.objs.size := by rw [sE.1, sD.1, sC.1, sB.1, sA.1]
  have zE : IsZip hE z TI TO .ellipsis := sE.extBut _ _ D.TOz.symm (sD.extBut _ _ D.i2z.symm (sC.extBut _ _ D.TOz.symm (sB.extBut _ _ D.i1z.symm zA)))
  have kE : ∀ c o, c ≠ z → c ≠ TO → c ≠ i1 → c ≠ i2 → s.heap.get? c = some o → hE.get? c = some o := fun c o n1 n2 n3 n4 e => sE.extBut _ _ n2 (sD.extBut _ _ n4 (up2 c o n1 n3 n2 e))
  have j1E : J1 (k1 + 1) hE := S1.keep _ _ _ jB fun o e => sE.extBut _ _ D.TOi1.symm (sD.extBut _ _ D.i12 (sC.extBut _ _ D.TOi1.symm e))
  have j2E : J2 (k2 + 1) hE := S2.keep _ _ _ jD fun o e => sE.extBut _ _ D.TOi2.symm e
  have zlt : z < hE.objs.size := Heap.lt_size zE
  show wpAny _ _ (Builtin.SmallTypes.ownedTupleHandOut (.ref z) (.ref hE.objs.size) >>= _) _ _ (_)
  refine wpAny_bind ?_
  unfold Builtin.SmallTypes.ownedTupleHandOut
  have zF : IsZip (hE.push { cls := .type "tuple", data := .seq #[x, y] }) z TI TO .ellipsis := Heap.get?_push_of_some _ zE
  refine wpAny_bind (wpAny_setField_rec zF (by simp) fun hG zG sG => ?_)
  replace zG : IsZip hG z TI TO (rawInt hE.objs.size) := zG
  refine wpAny_setField_rec zG (by simp) fun hK zK sK => ?_
  replace zK : IsZip hK z TI TO (rawInt hE.objs.size) := zK
  have up : ∀ c o, c ≠ z → hE.get? c = some o → hK.get? c = some o := fun c o n1 e => sK.extBut _ _ n1 (sG.extBut _ _ n1 (Heap.get?_push_of_some _ e))
  have tK : IsPair hK hE.objs.size x y := sK.extBut _ _ (Nat.ne_of_gt zlt) (sG.extBut _ _ (Nat.ne_of_gt zlt) (Heap.get?_push_size _ rfl))
  have eK : hK.objs.size = hE.objs.size + 1 := by rw [sK.1, sG.1, Heap.size_push]
  rw [ez] at zK tK eK
  refine wpAny_pure ⟨_, rfl, ?_⟩
  show Q (.ref hE.objs.size) _
  rw [ez]
  exact q hK zK (up _ _ D.TOz oE) (S1.keep _ _ _ j1E fun o e => up _ o D.i1z e) (S2.keep _ _ _ j2E fun o e => up _ o D.i2z e) tK eK fun c o n1 n2 n3 n4 e => up c o n1 (kE c o n1 n2 n3 n4 e)
theorem zipg_stop {Q : Fin → Shared → Prop} (hh : A.handled = none) (D : ZipApart z TI TO i1 i2 l1 l2) (S1 : Src prog w i1 l1 J1 C1) (gz : IsZip s.heap z TI TO .none) (gI : IsPair s.heap TI (.ref i1) (.ref i2))
    (j1 : J1 k1 s.heap) (c1 : C1 xs s.heap) (hx : xs[k1]? = none)
    (q : ∀ h' e, (∀ c o, c ≠ z → c ≠ i1 → s.heap.get? c = some o → h'.get? c = some o) → (∃ o, h'.get? e = some o ∧ o.cls = .type "StopIteration") → E (.ref e) { s with heap := h' }) :
    wpAny (model prog w) A (Builtin.«zip.__next__» ⟨[.ref z], []⟩) Q E s := by
  show wpAny _ _ (field (.ref z) 2 >>= _) _ _ s
  refine wpAny_bind (wpAny_field gz rfl (x := .bool false) rfl ?_)
  show wpAny _ _ (field (.ref z) 3 >>= _) _ _ s
  refine wpAny_bind (wpAny_field gz rfl (x := .ref TI) rfl (wpAny_bind (wpAny_seqItems gI rfl ?_)))
  show wpAny _ _ (Builtin.SmallTypes.ownedTupleIsFree (.ref z) >>= _) _ _ s
  refine wpAny_bind ?_
  unfold Builtin.SmallTypes.ownedTupleIsFree
  refine wpAny_bind (wpAny_field gz rfl (x := .none) rfl (wpAny_pure ?_))
  simp only [if_true]
  refine wpAny_bind (wpAny_rule (wpAny_bind (wpAny_field gz rfl (x := .ref TO) rfl ?_)))
  refine wpAny_bind (wpAny_setField_rec gz (by simp) fun hA zA sA => ?_)
  replace zA : IsZip hA z TI TO .ellipsis := zA
  refine wpAny_bind ?_
  simp only [List.zipIdx_cons, List.zipIdx_nil, List.forIn_cons, List.forIn_nil]
  refine wpAny_bind (wpAny_bind (wpAny_onRaise ?_))
  show wpAny _ _ (Builtin.SmallTypes.nextOf (.ref i1) >>= _) _ _ (_)
  refine wpAny_bind (S1.stop A _ _ k1 xs _ hh (S1.keep _ _ _ j1 fun o e => sA.extBut _ _ D.i1z e) (S1.seq _ _ _ c1 fun o e => sA.extBut _ _ D.l1z e) hx fun hB e sB he => ?_)
  obtain ⟨oe, ge, ce⟩ := he
  have zB : IsZip hB z TI TO .ellipsis := sB _ _ D.i1z.symm zA
  have ne : e ≠ z := fun u => by subst u; rw [zB] at ge; cases ge; simp at ce
  exact wpAny_setField_rec zB (by simp) fun hC _ sC => q hC e (fun c o n1 n3 u => sC.extBut _ _ n1 (sB _ _ n3 (sA.extBut _ _ n1 u))) ⟨oe, sC.extBut _ _ ne ge, ce⟩
theorem zipg_next {Q : Option Value → Shared → Prop} (D : ZipApart z TI TO i1 i2 l1 l2) (S1 : Src prog w i1 l1 J1 C1) (S2 : Src prog w i2 l2 J2 C2) (gz : IsZip s.heap z TI TO .none) (gI : IsPair s.heap TI (.ref i1) (.ref i2)) (gO : IsPair s.heap TO a b)
    (j1 : J1 k1 s.heap) (j2 : J2 k2 s.heap) (c1 : C1 xs s.heap) (c2 : C2 ys s.heap) (hx : xs[k1]? = some x) (hy : ys[k2]? = some y)
    (q : ∀ h', IsZip h' z TI TO (rawInt s.heap.objs.size) → IsPair h' TO x y → J1 (k1 + 1) h' → J2 (k2 + 1) h' → IsPair h' s.heap.objs.size x y → h'.objs.size = s.heap.objs.size + 1 →
      (∀ c o, c ≠ z → c ≠ TO → c ≠ i1 → c ≠ i2 → s.heap.get? c = some o → h'.get? c = some o) → Q (some (.ref s.heap.objs.size)) { s with heap := h' }) : wpAny (model prog w) A (pyNext (.ref z)) Q E s := by
  have tZ : s.TypeIs (.ref z) "zip" := ⟨_, gz, rfl⟩
  unfold pyNext
  exact wpAny_bind (wpAny_attempt (wpAny_callSpecial?_slot (name := Str.ofString "__next__") tZ PySem.F.slot_zip_next (wpAny_call_entry PySem.F.slot_zip_next tZ PySem.F.entry_zip_next
      (zipg_item D S1 S2 gz gI gO j1 j2 c1 c2 hx hy fun h' a1 a2 a3 a4 a5 a6 a7 => wpAny_pure (q h' a1 a2 a3 a4 a5 a6 a7)) (PySem.F.args_zip_next_1 _))))
theorem zipg_end {Q : Option Value → Shared → Prop} (hh : A.handled = none) (D : ZipApart z TI TO i1 i2 l1 l2) (S1 : Src prog w i1 l1 J1 C1) (gz : IsZip s.heap z TI TO .none) (gI : IsPair s.heap TI (.ref i1) (.ref i2)) (j1 : J1 k1 s.heap) (c1 : C1 xs s.heap) (hx : xs[k1]? = none)
    (q : ∀ h', (∀ c o, c ≠ z → c ≠ i1 → s.heap.get? c = some o → h'.get? c = some o) → Q none { s with heap := h' }) : wpAny (model prog w) A (pyNext (.ref z)) Q E s := by
  have tZ : s.TypeIs (.ref z) "zip" := ⟨_, gz, rfl⟩
  unfold pyNext
  refine wpAny_bind (wpAny_attempt (wpAny_callSpecial?_slot (name := Str.ofString "__next__") tZ PySem.F.slot_zip_next (wpAny_call_entry PySem.F.slot_zip_next tZ PySem.F.entry_zip_next (zipg_stop (A := A.in1) hh D S1 gz gI j1 c1 hx fun h' e hk he => ?_) (PySem.F.args_zip_next_1 _))))
  obtain ⟨o, ho, hc⟩ := he
  exact wpAny_bind (wpAny_isInstance (T := "StopIteration") (b := true) ⟨o, ho, hc⟩ isSubtype_stop (wpAny_pure (q _ hk)))
end
abbrev zgA (h : Heap) (t1 : String) (l1 : Addr) : Heap := h.push { cls := .type t1, data := .fields #[.ref l1, .int 0 0] }
abbrev zgB (h : Heap) (t1 t2 : String) (l1 l2 : Addr) : Heap := (zgA h t1 l1).push { cls := .type t2, data := .fields #[.ref l2, .int 0 0] }
abbrev zgC (h : Heap) (t1 t2 : String) (l1 l2 : Addr) : Heap := (zgB h t1 t2 l1 l2).push { cls := .type "tuple", data := .seq #[.ref h.objs.size, .ref (zgA h t1 l1).objs.size] }
abbrev zgD (h : Heap) (t1 t2 : String) (l1 l2 : Addr) : Heap := (zgC h t1 t2 l1 l2).push { cls := .type "tuple", data := .seq #[.none, .none] }
abbrev zgE (h : Heap) (t1 t2 : String) (l1 l2 : Addr) : Heap := (zgD h t1 t2 l1 l2).push { cls := .type "zip", data := .fields #[.none, .bool false, .bool false, .ref (zgB h t1 t2 l1 l2).objs.size, .ref (zgC h t1 t2 l1 l2).objs.size] }

def Gives1 (t : String) (l : Addr) (h : Heap) : Prop := ∀ (prog : Program) (w : World) (A : Around) (E : Value → Shared → Prop) (s : Shared) (Q : Value → Shared → Prop), s.heap = h → Q (.ref s.heap.objs.size) { s with heap := s.heap.push { cls := .type t, data := .fields #[.ref l, .int 0 0] } } → wpAny (model prog w) A (pyIter (.ref l)) Q E s
theorem meets_zipg (t1 t2 : String) (l1 l2 : Addr) :
    Meets (Builtin.«zip.__new__» ⟨[.type "zip", .ref l1, .ref l2], []⟩) (fun _ R s => Gives1 t1 l1 s.heap ∧ Gives1 t2 l2 (zgA s.heap t1 l1) ∧ R (.ok (.ret (.ref (zgD s.heap t1 t2 l1 l2).objs.size))) { s with heap := zgE s.heap t1 t2 l1 l2 }) :=
  .of_wp fun prog w A R s h => by
    obtain ⟨hp, g, d, tk, os⟩ := s; obtain ⟨hl1, hl2, h⟩ := h
    have hsub := sub_zip
    have G1 : ∀ {A : Around} {E : Value → Shared → Prop} {Q : Value → Shared → Prop}, Q (.ref hp.objs.size) ⟨hp.push { cls := .type t1, data := .fields #[.ref l1, .int 0 0] }, g, d, tk, os⟩ → wpAny (model prog w) A (pyIter (.ref l1)) Q E ⟨hp, g, d, tk, os⟩ := fun {A E Q} q => hl1 prog w A E ⟨hp, g, d, tk, os⟩ Q rfl q
    have G2 : ∀ {A : Around} {E : Value → Shared → Prop} {Q : Value → Shared → Prop}, Q (.ref (zgA hp t1 l1).objs.size) ⟨(zgA hp t1 l1).push { cls := .type t2, data := .fields #[.ref l2, .int 0 0] }, g, d, tk, os⟩ → wpAny (model prog w) A (pyIter (.ref l2)) Q E ⟨zgA hp t1 l1, g, d, tk, os⟩ := fun {A E Q} q => hl2 prog w A E ⟨zgA hp t1 l1, g, d, tk, os⟩ Q rfl q
    wp_walk using G1, G2
    exact ⟨_, rfl, h⟩
section
variable {prog : Program} {w : World} {A : Around} {E : Value → Shared → Prop} {s : Shared}
theorem call_zipg (t1 t2 : String) {l1 l2 : Addr} {Q : Value → Shared → Prop} (hl1 : Gives1 t1 l1 s.heap) (hl2 : Gives1 t2 l2 (zgA s.heap t1 l1))
    (h : ∀ h', IsZip h' (s.heap.objs.size + 4) (s.heap.objs.size + 2) (s.heap.objs.size + 3) .none → IsPair h' (s.heap.objs.size + 2) (.ref s.heap.objs.size) (.ref (s.heap.objs.size + 1)) → IsPair h' (s.heap.objs.size + 3) .none .none →
      h'.get? s.heap.objs.size = some { cls := .type t1, data := .fields #[.ref l1, .int 0 0] } → h'.get? (s.heap.objs.size + 1) = some { cls := .type t2, data := .fields #[.ref l2, .int 0 0] } →
      (∀ c o, s.heap.get? c = some o → h'.get? c = some o) → Q (.ref (s.heap.objs.size + 4)) { s with heap := h' }) :
    wpAny (model prog w) A (call (.type "zip") [.ref l1, .ref l2]) Q E s := by
  refine callType_new PySem.F.called_zip (by decide) (PySem.F.typeCall_zip_2 _ _) (PySem.F.newCall_zip_2 _ _) (fun obj => PySem.F.args_object_init_3 obj _ _) PySem.F.entry_zip_new (meets_zipg t1 t2 l1 l2) ⟨hl1, hl2, ?_⟩
  have z1 : (zgA s.heap t1 l1).objs.size = s.heap.objs.size + 1 := Heap.size_push ..
  have z2 : (zgB s.heap t1 t2 l1 l2).objs.size = s.heap.objs.size + 2 := by rw [Heap.size_push, z1]
  have z3 : (zgC s.heap t1 t2 l1 l2).objs.size = s.heap.objs.size + 3 := by rw [Heap.size_push, z2]
  have z4 : (zgD s.heap t1 t2 l1 l2).objs.size = s.heap.objs.size + 4 := by rw [Heap.size_push, z3]
  have g5 : (zgE s.heap t1 t2 l1 l2).get? (zgD s.heap t1 t2 l1 l2).objs.size = some _ := Heap.get?_push_size _ rfl
  have g4 : (zgE s.heap t1 t2 l1 l2).get? (zgC s.heap t1 t2 l1 l2).objs.size = some _ := Heap.get?_push_of_some _ (Heap.get?_push_size _ rfl)
  have g3 : (zgE s.heap t1 t2 l1 l2).get? (zgB s.heap t1 t2 l1 l2).objs.size = some _ := Heap.get?_push_of_some _ (Heap.get?_push_of_some _ (Heap.get?_push_size _ rfl))
  have g2 : (zgE s.heap t1 t2 l1 l2).get? (zgA s.heap t1 l1).objs.size = some _ := Heap.get?_push_of_some _ (Heap.get?_push_of_some _ (Heap.get?_push_of_some _ (Heap.get?_push_size _ rfl)))
  have g1 : (zgE s.heap t1 t2 l1 l2).get? s.heap.objs.size = some _ := Heap.get?_push_of_some _ (Heap.get?_push_of_some _ (Heap.get?_push_of_some _ (Heap.get?_push_of_some _ (Heap.get?_push_size _ rfl))))
  show _ ∧ _
  rw [z2, z3, z4] at g5
  rw [z1, z2] at g3
  rw [z3] at g4
  rw [z1] at g2
  rw [z4]
  exact ⟨⟨_, g5, rfl⟩, h _ g5 g3 g4 g1 g2 fun c o x => Heap.get?_push_of_some _ (Heap.get?_push_of_some _ (Heap.get?_push_of_some _ (Heap.get?_push_of_some _ (Heap.get?_push_of_some _ x))))⟩
end
theorem gives_list {l : Addr} {h : Heap} {xs : Array Value} (g : h.IsList l xs) : Gives1 "list_iterator" l h := fun prog w A E s Q e q => by subst e; exact wpAny_pyIter_list g q
theorem gives_tup {l : Addr} {h : Heap} {xs : Array Value} (g : h.IsTuple l xs) : Gives1 "tuple_iterator" l h := fun prog w A E s Q e q => by subst e; exact wpAny_pyIter_tuple g q
end L2
namespace L2
open PySem PySem.Spec PyProof.Rows

def SqX (K : PySem.W.Frag) (t : Bool) (H : Hp) (a : Addr) (xs : List V) : Prop := if t = true then SqT K H a xs else SqL K H a xs
def cX (t : Bool) (l : Addr) (xs : Array Value) (h : Heap) : Prop := if t = true then h.IsTuple l xs else h.IsList l xs
def jX (t : Bool) (it l : Addr) (k : Nat) (h : Heap) : Prop := if t = true then h.IsTupleIter it l k else h.IsListIter it l k
def tX (t : Bool) : String := if t = true then "tuple_iterator" else "list_iterator"
theorem src_x {prog : Program} {w : World} (t : Bool) (it l : Addr) : Src prog w it l (jX t it l) (cX t l) := by
  cases t
  · exact src_list it l
  · exact src_tup it l
theorem gives_x {t : Bool} {l : Addr} {h : Heap} {xs : Array Value} (g : cX t l xs h) : Gives1 (tX t) l h := by
  cases t
  · exact gives_list (show h.IsList l xs from g)
  · exact gives_tup (show h.IsTuple l xs from g)
theorem jX_new {t : Bool} {it l : Addr} {h : Heap} (g : h.get? it = some { cls := .type (tX t), data := .fields #[.ref l, .int 0 0] }) : jX t it l 0 h := by
  cases t
  · exact ⟨_, g, rfl, rfl⟩
  · exact ⟨_, g, rfl, rfl⟩
theorem cX_lt {t : Bool} {l : Addr} {h : Heap} {xs : Array Value} (g : cX t l xs h) : l < h.objs.size := by
  cases t
  · obtain ⟨o, g, _⟩ := (show h.IsList l xs from g); exact Heap.lt_size g
  · obtain ⟨o, g, _⟩ := (show h.IsTuple l xs from g); exact Heap.lt_size g
theorem cX_push {t : Bool} {l : Addr} {h : Heap} {xs : Array Value} (g : cX t l xs h) (o : Obj) : cX t l xs (h.push o) := by
  cases t
  · exact Heap.IsList.push (show h.IsList l xs from g) o
  · exact Heap.IsTuple.push (show h.IsTuple l xs from g) o
section
variable {X : Cx} {pins : List (Addr × Obj)} {σ : St} {H : Hp} {s : Shared} {a : Addr} {xs ys : List V} {t : Bool}
theorem Inv.seqX (I : Inv X pins σ H s) (h : SqX X.K t H a xs) : ∃ its : List Value, Vals xs its ∧ cX t a its.toArray s.heap ∧ xs.length ≤ sizeLine := by
  cases t
  · obtain ⟨its, r, p, z⟩ := I.list (show SqL X.K H a xs from h)
    exact ⟨its, r, p.isList, z⟩
  · obtain ⟨its, r, p, z⟩ := I.tuple (show SqT X.K H a xs from h)
    exact ⟨its, r, p, z⟩
theorem Inv.seqX_inj (I : Inv X pins σ H s) (h : SqX X.K t H a xs) (h' : SqX X.K t H a ys) : xs = ys := by
  cases t
  · exact I.list_inj (show SqL X.K H a xs from h) h'
  · exact I.tuple_inj (show SqT X.K H a xs from h) h'
end

def Itg (K : PySem.W.Frag) (t u : Bool) (a b : Addr) : It :=
  ⟨fun i H => ∃ xs ys x y, SqX K t H a xs ∧ SqX K u H b ys ∧ xs[i]? = some x ∧ ys[i]? = some y, fun i H v H' => ∃ p x y, v = .ref p ∧ H p = none ∧ H' = upd H p (.tup [x, y]) ∧ (∀ xs, SqX K t H a xs → xs[i]? = some x) ∧ ∀ ys, SqX K u H b ys → ys[i]? = some y,
    fun i H => ∃ xs, SqX K t H a xs ∧ xs.length ≤ i⟩
theorem turn_zipg {P : Program} {w : World} {K : PySem.W.Frag} {elts : List Expr} {k : Nat} {pos : Pos} (t u : Bool) (a b z TI TO i1 i2 : Addr) (N : ZipApart z TI TO i1 i2 a b) :
    Turn P w K (.Tuple elts k pos) (Itg K t u a b) [z, TI, TO, i1, i2] z (fun i h => IsZip h z TI TO .none ∧ IsPair h TI (.ref i1) (.ref i2) ∧ (∃ c d, IsPair h TO c d) ∧ jX t i1 a i h ∧ jX u i2 b i h) where
  mem := by simp
  obj := fun i h st c hc => by
    obtain ⟨g1, g2, ⟨e, v, g3⟩, g4, g5⟩ := st
    obtain ⟨o4, v4, g4, d4⟩ := (src_x (prog := P) (w := w) t i1 a).obj _ _ g4
    obtain ⟨o5, v5, g5, d5⟩ := (src_x (prog := P) (w := w) u i2 b).obj _ _ g5
    simp only [List.mem_cons, List.not_mem_nil, or_false] at hc
    rcases hc with rfl | rfl | rfl | rfl | rfl
    · exact ⟨_, g1, fun v q => by cases q⟩
    · exact ⟨_, g2, fun v q => by cases q⟩
    · exact ⟨_, g3, fun v q => by cases q⟩
    · exact ⟨_, g4, fun v q => by rw [d4] at q; cases q⟩
    · exact ⟨_, g5, fun v q => by rw [d5] at q; cases q⟩
  keep := fun i h h' st kk => by
    obtain ⟨g1, g2, ⟨e, v, g3⟩, g4, g5⟩ := st
    exact ⟨kk z (by simp) _ g1, kk TI (by simp) _ g2, ⟨e, v, kk TO (by simp) _ g3⟩, (src_x (prog := P) (w := w) t i1 a).keep _ _ _ g4 fun o q => kk i1 (by simp) o q, (src_x (prog := P) (w := w) u i2 b).keep _ _ _ g5 fun o q => kk i2 (by simp) o q⟩
  item := by
    intro X hP hw hK hc i pins s σ H E I hf st hg
    subst hP hw hK
    obtain ⟨xs, ys, x, y, hq, hq', hx, hy⟩ := hg
    obtain ⟨its, rv, p, _⟩ := I.seqX hq
    obtain ⟨jts, rv', p', _⟩ := I.seqX hq'
    obtain ⟨v, hu, ru⟩ := rv.get hx
    obtain ⟨v', hu', ru'⟩ := rv'.get hy
    obtain ⟨g1, g2, ⟨c, d, g3⟩, g4, g5⟩ := st
    obtain ⟨o4, v4, k4, d4⟩ := (src_x (prog := X.prog) (w := X.w) t i1 a).obj _ _ g4
    obtain ⟨o5, v5, k5, d5⟩ := (src_x (prog := X.prog) (w := X.w) u i2 b).obj _ _ g5
    refine zipg_next (xs := its.toArray) (ys := jts.toArray) N (src_x t i1 a) (src_x u i2 b) g1 g2 g3 g4 g5 p p' (by simpa using hu) (by simpa using hu') fun h' b1 b2 b3 b4 b5 b6 b7 => ?_
    refine ⟨_, rfl, wpAny_letOwnedTupleGo_zip b1 fun h'' e1 e2 => ?_⟩
    have zlt : z < s.heap.objs.size := Heap.lt_size g1
    have kk : ∀ e o, e ∉ [z, TI, TO, i1, i2] → s.heap.get? e = some o → h''.get? e = some o := fun e o he q => by
      simp only [List.mem_cons, List.not_mem_nil, or_false, not_or] at he
      exact (e2.2 e he.1).trans (b7 e o he.1 he.2.2.1 he.2.2.2.1 he.2.2.2.2 q)
    have up : ∀ e o, e ≠ z → h'.get? e = some o → h''.get? e = some o := fun e o he q => (e2.2 e he).trans q
    have hno : H s.heap.objs.size = none := I.hok.fresh (Nat.le_refl _)
    have hT : h''.get? s.heap.objs.size = some { cls := .type "tuple", data := .seq #[v, v'] } := up _ _ (Nat.ne_of_gt zlt) b5
    have I1 : Inv X pins σ (upd H s.heap.objs.size (.tup [x, y])) { s with heap := h'', toks := s.toks } := by
      refine I.turnedT (ch := [z, TI, TO, i1, i2]) hf kk (Nat.le_refl _) ⟨(by show 2 ≤ sizeLine; decide), [v, v'], ?_, ⟨_, hT, rfl, _, rfl⟩⟩
      exact .cons ru (.cons ru' .nil)
    refine ⟨.ref s.heap.objs.size, _, I1, rfl, ⟨_, x, y, rfl, hno, rfl, fun zs hz => by rw [I.seqX_inj hz hq]; exact hx, fun zs hz => by rw [I.seqX_inj hz hq']; exact hy⟩, ⟨e1, ?_, ⟨v, v', up _ _ N.TOz b2⟩, ?_, ?_⟩, fun e he => ?_⟩
    · exact up _ _ N.TIz (b7 _ _ N.TIz N.TITO N.TIi1 N.TIi2 g2)
    · exact (src_x (prog := X.prog) (w := X.w) t i1 a).keep _ _ _ b3 fun o q => up _ o N.i1z q
    · exact (src_x (prog := X.prog) (w := X.w) u i2 b).keep _ _ _ b4 fun o q => up _ o N.i2z q
    · have hb' := (hf e he).1
      rw [upd_ne]
      · exact hb'
      · intro q
        subst q
        have lt : ∀ {c : Addr} {o : Obj}, s.heap.get? c = some o → s.heap.objs.size ≠ c := fun q => Nat.ne_of_gt (Heap.lt_size q)
        simp only [List.mem_cons, List.not_mem_nil, or_false] at he
        rcases he with q | q | q | q | q
        · exact lt g1 q
        · exact lt g2 q
        · exact lt g3 q
        · exact lt k4 q
        · exact lt k5 q
  done := by
    intro X hP hw hK hc i pins s σ H E I hf st hg
    subst hP hw hK
    obtain ⟨xs, hq, hx⟩ := hg
    obtain ⟨its, rv, p, _⟩ := I.seqX hq
    have hl := rv.length
    obtain ⟨g1, g2, ⟨c, d, g3⟩, g4, g5⟩ := st
    refine zipg_end (xs := its.toArray) (I.ok.hd hc) N (src_x t i1 a) g1 g2 g4 p (by simp; omega) fun h' hk => ?_
    exact ⟨rfl, I.turnedL (t' := s.toks) (ch := [z, TI, TO, i1, i2]) hf fun e o he q => by
      simp only [List.mem_cons, List.not_mem_nil, or_false, not_or] at he
      exact hk e o he.1 he.2.2.2.1 q⟩
  self := fun A i s Q E st h => wpAny_pyIter_zip st.1 h
def iZipg (K : PySem.W.Frag) (t u : Bool) (ta : TA) : TI := fun σ H R => ta σ H fun vs H1 => ∃ a b, vs = [.ref a, .ref b] ∧ (∃ xs, SqX K t H1 a xs) ∧ (∃ ys, SqX K u H1 b ys) ∧ R (Itg K t u a b) H1

theorem pi_zipg (t u : Bool) {X : Cx} {elts : List Expr} {k : Nat} {tpos : Pos} {a b : Expr} {ta : TA} {p pos : Pos} (hg : Gl X "zip") (hm : X.mg "zip" = none) (ha : PA X [a, b] ta) (hs : starEach [a, b] X.env = (false, eval a X.env) :: starEach [b] X.env := by rfl) (hpl : (backTo pos (starEach [b] X.env)).any (·.1) = false := by rfl) :
    PI X (.Tuple elts k tpos) (.Call (.Name "zip" p) [a, b] [] pos) (iZipg X.K t u ta) := by
  intro pins s σ H R I h
  refine Call_ (ld_blt I hg hm boot_zip (PyProof.Rows.callWith_type1 (thn (ha pos pins s σ H _ I h) fun us s1 ⟨vs, H1, I1, r1, q1⟩ => ?_) hs hpl))
  obtain ⟨l, m, e, ⟨xs, hq⟩, ⟨ys, hq'⟩, q⟩ := q1
  subst e
  obtain ⟨v, v', rfl, ru, ru'⟩ := vals2 r1
  cases ru
  cases ru'
  obtain ⟨its, rv, pt, hz⟩ := I1.seqX hq
  obtain ⟨jts, rv', pt', hz'⟩ := I1.seqX hq'
  refine call_zipg (tX t) (tX u) (gives_x pt) (gives_x (cX_push pt' _)) fun h' c1 c2 c3 c4 c5 c7 => ?_
  refine wpAny_pyIter_zip c1 ?_
  have I2 := I1.kept (h' := h') (t' := s1.toks) c7
  refine ⟨s1.heap.objs.size + 4, [s1.heap.objs.size + 4, s1.heap.objs.size + 2, s1.heap.objs.size + 3, s1.heap.objs.size, s1.heap.objs.size + 1], _, Itg X.K t u l m, H1, rfl, I2, turn_zipg t u l m _ _ _ _ _ ?_, ⟨c1, c2, ⟨_, _, c3⟩, jX_new c4, jX_new c5⟩, fun c hc' => ?_, q⟩
  · exact zip_apart _ _ _ (cX_lt pt) (cX_lt pt')
  · have hle : s1.heap.objs.size ≤ c := by
      simp only [List.mem_cons, List.not_mem_nil, or_false] at hc'
      rcases hc' with rfl | rfl | rfl | rfl | rfl <;> omega
    exact I1.fpOk hle (I1.hok.fresh hle)
theorem for_zipg {K : PySem.W.Frag} {t u : Bool} {a b : Addr} {xs ys : List V} {g : TG} {tb : TS} {D : Ends} {σ : St} {H : Hp} (hn : xs.length = ys.length) (Pv : Nat → St → Hp → Prop) (h0 : Pv 0 σ H) (hl : ∀ i σ H, i ≤ xs.length → Pv i σ H → SqX K t H a xs ∧ SqX K u H b ys)
    (hs : ∀ i x y σ H p, xs[i]? = some x → ys[i]? = some y → Pv i σ H → H p = none → g (.ref p) σ (upd H p (.tup [x, y])) fun σ2 H2 => tb { D with nx := Pv (i + 1), ct := Pv (i + 1), bk := D.nx } σ2 H2) (hd : ∀ σ H, Pv xs.length σ H → D.nx σ H) :
    ∃ W : Nat → Nat → St → Hp → Prop, (∃ m, W 0 m σ H) ∧ ∀ i m σ H, W i m σ H →
      ((Itg K t u a b).stop i H ∧ D.nx σ H) ∨ ((Itg K t u a b).go i H ∧ ∃ N : St → Hp → Prop, (∀ σ' H', N σ' H' → ∃ m', m' < m ∧ W (i + 1) m' σ' H') ∧ ∀ x H', (Itg K t u a b).yld i H x H' → g x σ H' fun σ2 H2 => tb { D with nx := N, ct := N, bk := D.nx } σ2 H2) := by
  refine ⟨fun i m σ H => m = xs.length - i ∧ i ≤ xs.length ∧ Pv i σ H, ⟨xs.length, by simp, Nat.zero_le _, h0⟩, ?_⟩
  rintro i m σ H ⟨rfl, hi, p⟩
  obtain ⟨q, q'⟩ := hl i σ H hi p
  by_cases hlt : i < xs.length
  · have hlt' : i < ys.length := by omega
    refine .inr ⟨⟨xs, ys, xs[i], ys[i], q, q', by simp [hlt], by simp [hlt']⟩, Pv (i + 1), fun σ' H' p' => ⟨xs.length - (i + 1), by omega, rfl, hlt, p'⟩, fun x H' y => ?_⟩
    obtain ⟨c, x1, y1, e1, e2, e3, e4, e5⟩ := y
    subst e1 e3
    exact hs i x1 y1 σ H c (e4 xs q) (e5 ys q') p e2
  · have e : i = xs.length := by omega
    subst e
    exact .inl ⟨⟨xs, q, Nat.le_refl _⟩, hd σ H p⟩
end L2
namespace L2
open PySem PySem.Spec PyProof.Rows

def numIs : Int → Value → Bool
  | k, .int i _ => i == k
  | k, .bool b => (if b then (1 : Int) else 0) == k
  | _, _ => false
theorem numIs_shape {k : Int} {v : Value} (h : numIs k v = true) : (∃ t, v = .int k t) ∨ ∃ b : Bool, v = .bool b ∧ (if b then (1 : Int) else 0) = k := by
  cases v <;> simp_all [numIs]
section
variable {prog : Program} {w : World} {A : Around} {E : Value → Shared → Prop} {s : Shared}
theorem hash_bl {b : Bool} {Q : Int → Shared → Prop} (h : Q (hashInt (if b then 1 else 0)) { s with toks := s.toks + 1 }) : wpAny (model prog w) A (PySem.pyHash (.bool b)) Q E s := by
  have tI : s.TypeIs (.bool b) "bool" := rfl
  unfold PySem.pyHash
  refine wpAny_bind ?_
  rw [cRoomFor, if_neg (by rw [show [Value.bool b].any Value.onHeap = false from rfl]; exact Bool.false_ne_true)]
  refine wpAny_pure ?_
  refine wpAny_bind (wpAny_specialOf tI PySem.F.slot_bool_hash.lookup ?_)
  show wpAny _ _ (if (some (Value.builtin "int.__hash__") == some Value.none) = true then _ else _) Q E _
  rw [if_neg (by rw [beq_builtin_none]; exact Bool.false_ne_true)]
  refine wpAny_bind (wpAny_specialOf tI PySem.F.slot_bool_hash.lookup ?_)
  show wpAny _ _ (callSpecialIfBoundUnlessNone? (.bool b) "__hash__" _ >>= _) Q E _
  refine wpAny_bind (wpAny_callSpecialIfBoundUnlessNone?_slot tI PySem.F.slot_bool_hash (wpAny_call_entry PySem.F.slot_bool_hash tI entry_int_hash ?_ (args_int_hash _)))
  cases b
  · exact (show wpAny _ _ (do ret (← mkInt 0)) _ _ s from wpAny_ret_mkInt (by
      show wpAny _ _ (if (decide (-(2 : Int) ^ 63 ≤ 0) && decide ((0 : Int) < 2 ^ 63)) = true then _ else _) Q E _
      rw [if_pos (by decide)]
      exact wpAny_pure h))
  · exact (show wpAny _ _ (do ret (← mkInt 1)) _ _ s from wpAny_ret_mkInt (by
      show wpAny _ _ (if (decide (-(2 : Int) ^ 63 ≤ 1) && decide ((1 : Int) < 2 ^ 63)) = true then _ else _) Q E _
      rw [if_pos (by decide)]
      exact wpAny_pure h))
end
def numKind (prog : Program) (w : World) : PySem.KeyKind prog w Int where
  is := numIs
  hash := hashInt
  inj := fun v a b ha hb => by cases v <;> simp_all [numIs]
  byValue := fun k v h => by rcases numIs_shape h with ⟨t, rfl⟩ | ⟨b, rfl, _⟩ <;> rfl
  pyHash := fun hv h => by
    rcases numIs_shape hv with ⟨t, rfl⟩ | ⟨b, rfl, e⟩
    · exact wpAny_pyHash_int h
    · exact hash_bl (by rw [e]; exact h)
  eqBool := fun {A E s a b u v Q} hu hv h => by
    rcases numIs_shape hu with ⟨t, rfl⟩ | ⟨c, rfl, e⟩ <;> rcases numIs_shape hv with ⟨t', rfl⟩ | ⟨d, rfl, e'⟩
    · exact wpAny_eqBool_int h
    · refine SeqAt.EqAt.int_bool a t d prog w E Q ?_
      rw [e', show (a == b) = decide (a = b) from rfl]
      exact h
    · refine SeqAt.EqAt.bool_int c b t' prog w E Q ?_
      rw [e, show (a == b) = decide (a = b) from rfl]
      exact h
    · refine SeqAt.EqAt.bool_bool c d prog w E Q ?_
      have q : (c == d) = decide (a = b) := by subst e e'; cases c <;> cases d <;> rfl
      rw [q]
      exact h
  «strs» := fun k x t v h => by simp [numIs] at h

def nV : V → Option Int
  | .int i => some i
  | .bl b => some (if b then 1 else 0)
  | _ => none
theorem nV_is {P : Program} {w : World} {v : V} {u : Value} {k : Int} (e : nV v = some k) (r : RelV v u) : (numKind P w).is k u = true := by
  cases v with
  | int i => obtain ⟨t, rfl⟩ := (show ∃ t, u = Value.int i t from r); cases e; simp [numKind, numIs]
  | bl b => cases (show u = Value.bool b from r); cases e; simp [numKind, numIs]
  | _ => cases e

def Nums (xs : List V) (ns : List Int) : Prop := xs.map nV = ns.map some
theorem Nums.length {xs : List V} {ns : List Int} (h : Nums xs ns) : xs.length = ns.length := by
  have := congrArg List.length h
  simpa using this
theorem Nums.get {xs : List V} {ns : List Int} {i : Nat} {n : Int} (h : Nums xs ns) (e : ns[i]? = some n) : ∃ x, xs[i]? = some x ∧ nV x = some n := by
  have q : (xs.map nV)[i]? = (ns.map some)[i]? := by rw [h]
  rw [List.getElem?_map, List.getElem?_map, e] at q
  cases ex : xs[i]? with
  | none => rw [ex] at q; cases q
  | some x => rw [ex] at q; exact ⟨x, rfl, Option.some.inj q⟩
theorem nums_ints (ns : List Int) : Nums (ns.map V.int) ns := by unfold Nums; rw [List.map_map]; rfl
theorem Nums.snoc {xs : List V} {ns : List Int} {x : V} {n : Int} (h : Nums xs ns) (e : nV x = some n) : Nums (xs ++ [x]) (ns ++ [n]) := by
  unfold Nums at h ⊢
  rw [List.map_append, List.map_append, h]
  simp [e]
theorem nums_are {P : Program} {w : World} : ∀ {xs : List V} {ns : List Int} {us : List Value}, Nums xs ns → Vals xs us → ItemsAre (numKind P w) ns us
  | [], [], _, _, .nil => .nil
  | [], _ :: _, _, h, _ => by simp [Nums] at h
  | _ :: _, [], _, h, _ => by simp [Nums] at h
  | x :: xs, n :: ns, _, h, .cons r t => by
    have h' : nV x = some n ∧ xs.map nV = ns.map some := by simpa [Nums] using h
    exact .cons (nV_is h'.1 r) (nums_are (xs := xs) h'.2 t)

def ND (P : Program) (w : World) (a : Addr) (kvs : List (Int × V)) : HO := .ext fun h => kvs.length ≤ sizeLine ∧ (a == sysModules) = false ∧ ∃ vs, KV kvs vs ∧ h.DictOf (numKind P w) a vs
theorem nd_ok {P : Program} {w : World} {H : Hp} {h : Heap} {a : Addr} {kvs : List (Int × V)} {vs : List (Int × Value)} (z : kvs.length ≤ sizeLine) (hd : (a == sysModules) = false) (r : KV kvs vs) (dd : h.DictOf (numKind P w) a vs) : ObjOk P w H h a (ND P w a kvs) := by
  refine ⟨⟨z, hd, vs, r, dd⟩, ?_, fun h1 h2 ⟨z, hd, vs, r, o, es, ep, g, m⟩ k => ⟨z, hd, vs, r, o, es, ep, k o g, m⟩⟩
  obtain ⟨o, _, _, g, _⟩ := dd
  exact ⟨o, g⟩
section
variable {X : Cx} {pins : List (Addr × Obj)} {σ : St} {H : Hp} {s : Shared} {a : Addr} {kvs : List (Int × V)} {k : Int} {y v : V} {u r : Value} {A : Around} {E : Value → Shared → Prop}
theorem nd_of (I : Inv X pins σ H s) (e : H a = some (ND X.prog X.w a kvs)) : kvs.length ≤ sizeLine ∧ (a == sysModules) = false ∧ ∃ vs, KV kvs vs ∧ s.heap.DictOf (numKind X.prog X.w) a vs :=
  (show ObjOk X.prog X.w H s.heap a (ND X.prog X.w a kvs) from I.hok _ _ e).1
def tNGet (P : Program) (w : World) (td ty : TE) : TE := fun σ H Q => td σ H fun x H1 => ty σ H1 fun y H2 => ∃ a kvs k v, x = .ref a ∧ H2 a = some (ND P w a kvs) ∧ nV y = some k ∧ valV kvs k = some v ∧ Q v H2
def tNNotIn (P : Program) (w : World) (ty td : TE) : TE := fun σ H Q => ty σ H fun y H1 => td σ H1 fun x H2 => ∃ a kvs k, x = .ref a ∧ H2 a = some (ND P w a kvs) ∧ nV y = some k ∧ Q (.bl (!(valV kvs k).isSome)) H2
def sNPut (P : Program) (w : World) (td ty tv : TE) : TS := fun D σ H => tv σ H fun v H1 => td σ H1 fun x H2 => ty σ H2 fun y H3 => ∃ a kvs k, x = .ref a ∧ H3 a = some (ND P w a kvs) ∧ nV y = some k ∧ kvs.length < sizeLine ∧ D.nx σ (upd H3 a (ND P w a (putK kvs k v)))
def tNDisp (P : Program) (w : World) (ty tv : TE) : TE := fun σ H Q => ∀ p, H p = none → tPairs [(ty, tv)] σ (upd H p (ND P w p [])) fun ps H2 => H2 p = some (ND P w p []) ∧ ∃ y v k, ps = [(y, v)] ∧ nV y = some k ∧ Q (.ref p) (upd H2 p (ND P w p [(k, v)]))
variable {o i value : Expr} {pos pos' : Pos} {td ty tv : TE}
theorem pe_nget (ho : PE X o td) (hi : PE X i ty) (hs : NoSl i) : PE X (.Subscript o i pos) (tNGet X.prog X.w td ty) := by
  intro pins s σ H Q I h
  refine subD_of PySem.F.slot_dict_getitem.lookup hs (thn (ho pins s σ H _ I h) fun u s1 ⟨x, H1, I1, rx, q1⟩ => thn (hi pins s1 σ H1 _ I1 q1) fun iv s2 ⟨y, H2, I2, ry, a, kvs, k, v, ex, g, ey, l, q2⟩ => ?_)
  subst ex
  obtain rfl : u = Value.ref a := rx
  obtain ⟨z, hd, vs, rel, dd⟩ := nd_of I2 g
  obtain ⟨w', hw, rw'⟩ := RelO.some_of (v := v) (o := valueAt vs k) (by rw [← l]; exact rel.val k)
  exact ⟨dd.typeIs, wpAny_getItem_of (nV_is ey ry) dd.mapOf hw ⟨v, H2, I2.tok _, rw', q2⟩⟩
theorem pc_nnotin (hi : PE X i ty) (ho : PE X o td) : PC X .NotIn i o (tNNotIn X.prog X.w ty td) := by
  intro pins s σ H Q I h
  refine thn (hi pins s σ H _ I h) fun iv s1 ⟨y, H1, I1, ry, q1⟩ => thn (ho pins s1 σ H1 _ I1 q1) fun u s2 ⟨x, H2, I2, rx, a, kvs, k, ex, g, ey, q2⟩ => ?_
  subst ex
  obtain rfl : u = Value.ref a := rx
  obtain ⟨z, hd, vs, rel, dd⟩ := nd_of I2 g
  refine wpAny_notIn_of (nV_is ey ry) hd dd.mapOf ?_
  rw [← (rel.val k).isSome_eq]
  exact ⟨.bl (!(valV kvs k).isSome), H2, I2.tok _, rfl, q2⟩
theorem ps_nput (ho : PE X o td) (hi : PE X i ty) (hv : PE X value tv) (hs : swapsWith value (some (.Subscript o i pos')) pos.line X.env = pure false) :
    PS X (.Assign [.Subscript o i pos'] value pos) (sNPut X.prog X.w td ty tv) := by
  intro pins s σ H D I h
  refine wpAny_Assign_Subscript (thn (hv pins s σ H _ I h) fun r s1 ⟨v, H1, I1, rv, q1⟩ => thn (ho pins s1 σ H1 _ I1 q1) fun u s2 ⟨x, H2, I2, rx, q2⟩ => thn (hi pins s2 σ H2 _ I2 q2) fun iv s3 ⟨y, H3, I3, ry, a, kvs, k, ex, e, ey, l, q3⟩ => ?_) hs
  subst ex
  obtain rfl : u = Value.ref a := rx
  obtain ⟨z, hd, vs, rel, dd⟩ := nd_of I3 e
  have hz : vs.length ≤ sizeLine := by rw [← rel.length]; exact z
  have hl : (putK kvs k v).length ≤ sizeLine := by have := length_putK kvs k v; omega
  refine wpAny_setItem_pairs (hsz := hz) (nV_is ey ry) dd fun h' dd' hs => ⟨σ, _, ?_, q3⟩
  have he : ∃ q, h'.get? a = some q := let ⟨q, _, _, hq, _⟩ := dd'; ⟨q, hq⟩
  exact d_write I3 (by rw [e]; exact True.intro) hs he (nd_ok hl hd (rel.put k rv) dd')
theorem pe_ndisp {ke ve : Expr} (h : PE X ke ty) (hv : PE X ve tv) : PE X (.Dict [some ke] [ve] pos) (tNDisp X.prog X.w ty tv) := by
  intro pins s σ H Q I q
  have hn := I.hok.fresh (Nat.le_refl s.heap.objs.size)
  have hsz : (s.heap.objs.size == sysModules) = false := beq_eq_false_iff_ne.mpr (Ne.symm (Nat.ne_of_lt I.big))
  have I1 := I.laid (a := s.heap.objs.size) (o := ND X.prog X.w s.heap.objs.size []) (h' := s.heap.push { cls := .type "dict", data := .dict #[] }) (t' := s.toks) (fun _ _ q => Heap.get?_push_of_some _ q) (Nat.le_refl _) (nd_ok (Nat.zero_le _) hsz .nil (Heap.DictOf.new s.heap))
  refine wpAny_Dict_walk (knd := numKind X.prog X.w) rfl rfl (by simp) (by simp) (thn ((pps_cons h hv pps_nil) pins _ σ _ _ I1 (q _ hn)) fun ws s2 ⟨ps, H2, I2, rel, e, y, v, k, ep, ey, q2⟩ => ?_)
  subst ep
  cases rel with
  | @cons p1 w1 ps1 ws1 h1 t =>
    cases t
    obtain ⟨u, r⟩ := w1
    obtain ⟨z, hd, vs0, r0, dd⟩ := nd_of I2 e
    cases r0
    refine ⟨[(k, r)], ⟨nV_is ey h1.1, rfl, True.intro⟩, dd, fun h' dd' hs => ⟨.ref s.heap.objs.size, _, ?_, rfl, q2⟩⟩
    have he : ∃ q, h'.get? s.heap.objs.size = some q := let ⟨q, _, _, hq, _⟩ := dd'; ⟨q, hq⟩
    exact d_write I2 (by rw [e]; exact True.intro) hs he (nd_ok (by show 1 ≤ sizeLine; decide) hd (.cons ⟨rfl, h1.2⟩ .nil) dd')
end
end L2
namespace L2
open PySem PySem.Spec PyProof.Rows

section
variable {prog : Program} {w : World} {A : Around} {E : Value → Shared → Prop} {s : Shared}
def PairKey (P : Program) (w : World) (h : Heap) (k : Int × List Int) (a : Addr) : Prop :=
  ∃ o v b n, h.get? a = some o ∧ o.cls = .type "tuple" ∧ o.data = .seq #[v, .ref b] n ∧ numIs k.1 v = true ∧ IsTupleKey (numKind P w) h k.2 b
theorem PairKey.tup {k : Int × List Int} {a : Addr} (x : PairKey prog w s.heap k a) : s.TypeIs (.ref a) "tuple" := let ⟨o, _, _, _, g, c, _⟩ := x; ⟨o, g, c⟩
def pairHash (P : Program) (w : World) (k : Int × List Int) : Int := reduceHash (Builtin.Tuple.tupleHashOf [hashInt k.1, tupleKeyHash (numKind P w) k.2])
theorem pair_hash {k : Int × List Int} {a : Addr} {Q : Int → Shared → Prop} (hu : A.units + 1 < cLine) (hk : PairKey prog w s.heap k a) (h : Q (pairHash prog w k) { s with toks := s.toks + (k.2.length + 3) }) : wpAny (model prog w) A (PySem.pyHash (.ref a)) Q E s := by
  have tT := hk.tup
  obtain ⟨o, v, b, n, g, _, d, kv, kb⟩ := hk
  unfold PySem.pyHash
  first | unfold pyHashByItsType | skip
  refine wpAny_bind (wpAny_cRoomFor_or (.inr (by omega)) ?_)
  refine wpAny_bind (wpAny_specialOf tT PySem.F.slot_tuple_hash.lookup ?_)
  show wpAny _ _ (if (some (Value.builtin "tuple.__hash__") == some Value.none) = true then _ else _) Q E _
  rw [if_neg (by rw [beq_builtin_none]; exact Bool.false_ne_true)]
  refine wpAny_bind (wpAny_specialOf tT PySem.F.slot_tuple_hash.lookup ?_)
  show wpAny _ _ (callSpecialIfBoundUnlessNone? (.ref a) "__hash__" _ >>= _) Q E _
  refine wpAny_bind (wpAny_callSpecialIfBoundUnlessNone?_slot tT PySem.F.slot_tuple_hash (wpAny_call_entry PySem.F.slot_tuple_hash tT PySem.F.entry_tuple_hash ?_ (PySem.F.args_tuple_hash_1 _)))
  show wpAny _ A.in1 (Builtin.Tuple.tupleItemsOf (.ref a) >>= _) _ _ _
  refine wpAny_bind (wpAny_tupleItemsOf g d ?_)
  refine wpAny_bind ?_
  rw [← Array.forIn_toList]
  refine wpAny_forIn_list _ (fun rest (bb : Array Int) s' => (rest = [v, .ref b] ∧ bb = #[] ∧ s' = s) ∨ (rest = [.ref b] ∧ bb = #[hashInt k.1] ∧ s' = { s with toks := s.toks + 1 }) ∨ (rest = [] ∧ bb = #[hashInt k.1, tupleKeyHash (numKind prog w) k.2] ∧ s' = { s with toks := s.toks + 1 + (k.2.length + 1) })) _ ?_ ?_ _ _ (.inl ⟨rfl, rfl, rfl⟩)
  · rintro x rest bb s' (⟨e, rfl, rfl⟩ | ⟨e, rfl, rfl⟩ | ⟨e, _, _⟩)
    · cases e
      refine wpAny_bind ((numKind prog w).pyHash (k := k.1) kv ?_)
      first
        | exact wpAny_pure (.inr (.inl ⟨rfl, rfl, rfl⟩))
        | exact wpAny_bind (wpAny_pure (wpAny_pure (.inr (.inl ⟨rfl, rfl, rfl⟩))))
    · cases e
      refine wpAny_bind (wpAny_pyHash_tuple (knd := numKind prog w) (ks := k.2) (A := A.in1) (s := { s with toks := s.toks + 1 }) hu kb ?_)
      first
        | exact wpAny_pure (.inr (.inr ⟨rfl, rfl, rfl⟩))
        | exact wpAny_bind (wpAny_pure (wpAny_pure (.inr (.inr ⟨rfl, rfl, rfl⟩))))
    · cases e
  · rintro bb s' (⟨e, _, _⟩ | ⟨e, _, _⟩ | ⟨_, rfl, rfl⟩)
    · cases e
    · cases e
    show wpAny _ _ (retInt (Builtin.Tuple.tupleHashOf [hashInt k.1, tupleKeyHash (numKind prog w) k.2])) _ _ _
    refine wpAny_ret_mkInt ?_
    unfold pairHash reduceHash at h
    generalize Builtin.Tuple.tupleHashOf [hashInt k.1, tupleKeyHash (numKind prog w) k.2] = hv at h ⊢
    show wpAny _ _ (if (decide (-(2 : Int) ^ 63 ≤ hv) && decide (hv < 2 ^ 63)) = true then _ else _) Q E _
    have et : s.toks + 1 + (k.2.length + 1) + 1 = s.toks + (k.2.length + 3) := by omega
    by_cases hr : (decide (-(2 : Int) ^ 63 ≤ hv) && decide (hv < 2 ^ 63)) = true
    · rw [if_pos hr] at h ⊢
      exact wpAny_pure (by simpa only [et] using h)
    · rw [if_neg hr] at h ⊢
      exact wpAny_bind (wpAny_rule (wpAny_pure (by simpa only [et] using h)))
theorem PairKey.inj {h : Heap} {a : Addr} {x y : Int × List Int} (hx : PairKey prog w h x a) (hy : PairKey prog w h y a) : x = y := by
  obtain ⟨o, v, b, n, g, c, d, kv, kb⟩ := hx
  obtain ⟨o', v', b', n', g', c', d', kv', kb'⟩ := hy
  rw [g] at g'
  cases g'
  rw [d] at d'
  cases d'
  obtain ⟨x1, x2⟩ := x
  obtain ⟨y1, y2⟩ := y
  have e1 : x1 = y1 := (numKind prog w).inj v _ _ kv kv'
  have e2 : x2 = y2 := kb.inj kb'
  rw [e1, e2]
theorem pair_eq_tree {x y : Int × List Int} {a b : Addr} {P : Fin → Shared → Prop} (hu : A.units < cLine) (hx : PairKey prog w s.heap x a) (hy : PairKey prog w s.heap y b) (h : P (.done (.ret (.bool (decide (x = y))))) s) :
    wpAny (model prog w) A (Builtin.«tuple.__eq__» ⟨[.ref a, .ref b], []⟩) P E s := by
  have tB := hy.tup
  obtain ⟨oa, v, p, na, ga, _, da, kv, kp⟩ := hx
  obtain ⟨ob, v', p', nb, gb, _, db, kv', kp'⟩ := hy
  obtain ⟨x1, x2⟩ := x
  obtain ⟨y1, y2⟩ := y
  show wpAny _ _ (isInstance (.ref b) (.type "tuple") >>= _) _ _ _
  refine wpAny_bind (wpAny_isInstance tB isSubtype_tuple_tuple ?_)
  simp only [Bool.not_true, Bool.false_eq_true, if_false]
  refine wpAny_bind (wpAny_tupleItemsOf ga da (wpAny_bind (wpAny_tupleItemsOf gb db ?_)))
  refine wpAny_bind ?_
  refine wpAny_forIn_list _ (fun rest r s' => r.1 = none ∧ s' = s ∧ ((rest = [(v, v'), (Value.ref p, Value.ref p')]) ∨ (rest = [(Value.ref p, Value.ref p')] ∧ x1 = y1) ∨ (rest = [] ∧ x1 = y1 ∧ x2 = y2))) _ ?_ ?_ _ _ ⟨rfl, rfl, .inl rfl⟩
  · rintro ⟨q, q'⟩ rest r s' ⟨hr, rfl, (e | ⟨e, e1⟩ | ⟨e, _⟩)⟩
    · cases e
      refine wpAny_bind ((numKind prog w).eqBool (a := x1) (b := y1) kv kv' ?_)
      by_cases hk : x1 = y1
      · rw [decide_eq_true hk]
        simp only [Bool.not_true, Bool.false_eq_true, if_false]
        exact wpAny_pure ⟨rfl, rfl, .inr (.inl ⟨by first | rfl | trivial, hk⟩)⟩
      · rw [decide_eq_false hk]
        simp only [Bool.not_false, if_true]
        have hf : decide ((x1, x2) = (y1, y2)) = false := decide_eq_false fun z => hk (Prod.mk.inj z).1
        rw [hf] at h
        exact wpAny_bind (wpAny_pure (wpAny_pure (wpAny_pure h)))
    · cases e
      refine wpAny_bind (wpAny_eqBool_tuple (knd := numKind prog w) (x := x2) (y := y2) hu kp kp' ?_)
      by_cases hk : x2 = y2
      · rw [decide_eq_true hk]
        simp only [Bool.not_true, Bool.false_eq_true, if_false]
        exact wpAny_pure ⟨rfl, rfl, .inr (.inr ⟨by first | rfl | trivial, e1, hk⟩)⟩
      · rw [decide_eq_false hk]
        simp only [Bool.not_false, if_true]
        have hf : decide ((x1, x2) = (y1, y2)) = false := decide_eq_false fun z => hk (Prod.mk.inj z).2
        rw [hf] at h
        exact wpAny_bind (wpAny_pure (wpAny_pure (wpAny_pure h)))
    · cases e
  · rintro ⟨r1, r2⟩ s' ⟨hr, rfl, (e | ⟨e, _⟩ | ⟨_, e1, e2⟩)⟩
    · cases e
    · cases e
    simp only at hr
    subst hr
    refine wpAny_pure ?_
    show P (.done (.ret (.bool (2 == 2)))) s'
    have ht : decide ((x1, x2) = (y1, y2)) = true := decide_eq_true (by rw [e1, e2])
    rw [ht] at h
    exact h
theorem pair_eq {x y : Int × List Int} {a b : Addr} {Q : Bool → Shared → Prop} (hu : A.units + 1 < cLine) (hx : PairKey prog w s.heap x a) (hy : PairKey prog w s.heap y b) (h : Q (decide (x = y)) s) :
    wpAny (model prog w) A (PySem.eqBool (.ref a) (.ref b)) Q E s := by
  unfold PySem.eqBool
  try with_reducible refine wpAny_holding ?_
  show wpAny _ _ (if (Value.ref a == Value.ref b) = true then _ else _) Q E _
  by_cases hab : (Value.ref a == Value.ref b) = true
  · rw [if_pos hab]
    have e : a = b := by have := eq_of_beq hab; injection this
    subst e
    obtain rfl := hx.inj hy
    exact wpAny_bind (wpAny_rule (wpAny_pure (by simpa using h)))
  · rw [if_neg hab]
    exact wpAny_bind (wpAny_richCompare_same_room (op := .Eq) hx.tup hy.tup PySem.F.slot_tuple_eq
      (wpAny_call_entry PySem.F.slot_tuple_eq hx.tup PySem.F.entry_tuple_eq (pair_eq_tree (A := A.in1) hu hx hy ⟨_, rfl, (fun e => nomatch e), wpAny_truthy_bool h⟩) (PySem.F.args_tuple_eq_2 _ _)) (by omega))
theorem flat_quiet {n : Nat} {ks : List Int} {a : Addr} {Q : Bool → Shared → Prop} (hk : IsTupleKey (numKind prog w) s.heap ks a) (h : Q true s) : wpAny (model prog w) A (eqIsQuiet (n + 1) (.ref a)) Q E s := by
  have tT := hk.typeIs
  obtain ⟨o, items, m, g, _, d, hi⟩ := hk
  unfold eqIsQuiet
  refine wpAny_bind (wpAny_specialOf tT PySem.F.slot_tuple_eq.lookup ?_)
  show wpAny _ _ (isInstance (.ref a) (.type "tuple") >>= _) _ _ _
  refine wpAny_bind (wpAny_isInstance tT isSubtype_tuple_tuple ?_)
  simp only [Bool.not_true, Bool.false_eq_true, if_false]
  refine wpAny_bind (wpAny_seqItems g d (wpAny_bind ?_))
  show wpAny _ _ (forIn items _ _) _ _ _
  rw [← Array.forIn_toList]
  refine wpAny_forIn_list _ (fun rest r s' => r.1 = none ∧ s' = s ∧ ∀ v ∈ rest, carriedByValue v = true) _ ?_ ?_ _ _ ⟨rfl, rfl, hi.byValue⟩
  · rintro v rest r s' ⟨hr, rfl, al⟩
    rw [eqIsQuiet_byValue _ (al v List.mem_cons_self)]
    refine wpAny_bind (wpAny_pure ?_)
    simp only [Bool.not_true, Bool.false_eq_true, if_false]
    exact wpAny_pure ⟨rfl, rfl, fun u hu => al u (List.mem_cons_of_mem _ hu)⟩
  · rintro ⟨r1, r2⟩ s' ⟨hr, rfl, _⟩
    simp only at hr
    subst hr
    exact wpAny_pure h
theorem pair_quiet {k : Int × List Int} {a : Addr} {Q : Bool → Shared → Prop} (hk : PairKey prog w s.heap k a) (h : Q true s) : wpAny (model prog w) A (eqIsQuiet 8 (.ref a)) Q E s := by
  have tT := hk.tup
  obtain ⟨o, v, b, m, g, _, d, kv, kb⟩ := hk
  have cv : carriedByValue v = true := (numKind prog w).byValue _ _ kv
  unfold eqIsQuiet
  refine wpAny_bind (wpAny_specialOf tT PySem.F.slot_tuple_eq.lookup ?_)
  show wpAny _ _ (isInstance (.ref a) (.type "tuple") >>= _) _ _ _
  refine wpAny_bind (wpAny_isInstance tT isSubtype_tuple_tuple ?_)
  simp only [Bool.not_true, Bool.false_eq_true, if_false]
  refine wpAny_bind (wpAny_seqItems g d (wpAny_bind ?_))
  show wpAny _ _ (forIn #[v, Value.ref b] _ _) _ _ _
  rw [← Array.forIn_toList]
  refine wpAny_forIn_list _ (fun rest r s' => r.1 = none ∧ s' = s ∧ (rest = [v, .ref b] ∨ rest = [.ref b] ∨ rest = [])) _ ?_ ?_ _ _ ⟨rfl, rfl, .inl rfl⟩
  · rintro x rest r s' ⟨hr, rfl, (e | e | e)⟩
    · cases e
      rw [eqIsQuiet_byValue _ cv]
      refine wpAny_bind (wpAny_pure ?_)
      simp only [Bool.not_true, Bool.false_eq_true, if_false]
      exact wpAny_pure ⟨rfl, rfl, .inr (.inl (by first | rfl | trivial))⟩
    · cases e
      refine wpAny_bind (flat_quiet (n := 6) kb ?_)
      simp only [Bool.not_true, Bool.false_eq_true, if_false]
      exact wpAny_pure ⟨rfl, rfl, .inr (.inr (by first | rfl | trivial))⟩
    · cases e
  · rintro ⟨r1, r2⟩ s' ⟨hr, rfl, _⟩
    simp only at hr
    subst hr
    exact wpAny_pure h
end
def pairKind (prog : Program) (w : World) : HeapKind prog w (Int × List Int) where
  is := PairKey prog w
  hash := pairHash prog w
  draws := fun k => k.2.length + 3
  room := fun A => A.units + 1 < cLine
  inj := fun hx hy => hx.inj hy
  keeps := fun {h h' k a d o es ep} x ho hd hs => by
    obtain ⟨o', v, b, n, g, c, dd, kv, kb⟩ := x
    have ne : a ≠ d := by
      rintro rfl
      rw [ho] at g
      cases g
      rw [hd] at dd
      cases dd
    exact ⟨o', v, b, n, (hs.2 a ne).trans g, c, dd, kv, kb.keeps ho hd hs⟩
  pyHash := fun hu hk h => pair_hash hu hk h
  eqBool := fun hu hx hy h => pair_eq hu hx hy h
  quiet := fun hk h => pair_quiet hk h

section
variable {prog : Program} {w : World} {K : Type} [DecidableEq K] {knd : HeapKind prog w K} {A : Around} {E : Value → Shared → Prop} {s : Shared}
theorem setdef_heap {d a : Addr} {xs : List (K × Addr × Value)} {k : K} {v : Value} {Q : Value → Shared → Prop} (hu : knd.room A) (hkey : knd.is s.heap k a) (hm : s.heap.DictOfH knd d xs) (hsz : xs.length ≤ sizeLine)
    (h1 : ∀ p, atKey xs k = some p → Q p.2 { s with toks := s.toks + knd.draws k })
    (h2 : atKey xs k = none → ∀ h', h'.DictOfH knd d (xs ++ [(k, a, v)]) → Heap.SameBut d s.heap h' → Q v { s with heap := h', toks := s.toks + knd.draws k }) :
    wpAny (model prog w) A (dictSetDefault d (.ref a) v) Q E s := by
  obtain ⟨o, es, ep, ho, hc, hd, he, his, hn⟩ := hm
  unfold dictSetDefault
  try with_reducible refine wpAny_holding ?_
  refine wpAny_bind (knd.pyHash hu hkey (wpAny_bind (wpAny_dictFind_heap (s := { s with toks := s.toks + knd.draws k }) hu hkey ho hd he his hn ?_ ?_)))
  · intro hno
    have en := atKey_none_of_get hno
    have hnot : k ∉ xs.map (·.1) := not_mem_keys_of_get hno
    refine wpAny_bind (wpAny_rule (wpAny_bind (wpAny_updateDictKeys (hz := by have e := size_of_entries he; omega) (s := { s with toks := s.toks + knd.draws k }) ho hd (wpAny_pure (h2 en _ ⟨_, _, ep + 1, Heap.get?_update_self _ ho (Obj.isFreed_of_dict (Obj.data_mapDictKeys hd _)), hc.mapDictKeys _, Obj.data_mapDictKeys hd _, ?_, ?_, ?_⟩ (Heap.SameBut.update ..))))))
    · simp [he, entryOfKey]
    · intro x hx
      rcases List.mem_append.mp hx with hx | hx
      · exact knd.keeps (his x hx) ho hd (Heap.SameBut.update ..)
      · rw [List.mem_singleton] at hx
        subst hx
        exact knd.keeps hkey ho hd (Heap.SameBut.update ..)
    · rw [List.map_append, List.nodup_append]
      refine ⟨hn, by simp, fun x hx y hy => ?_⟩
      have : y = k := by simpa using hy
      subst this
      exact fun e => hnot (e ▸ hx)
  · intro j p hj
    refine wpAny_bind (wpAny_dictEntries (s := { s with toks := s.toks + knd.draws k }) ho hd ?_)
    rw [entry_at he j, hj]
    exact wpAny_bind (wpAny_rule (wpAny_pure (h1 p (atKey_of_get hn hj))))
theorem meets_setdefH (d a : Addr) (hd : (d == sysModules) = false) (v : Value) :
    MeetsIn prog w (Builtin.«dict.setdefault» ⟨[.ref d, .ref a, v], []⟩) (fun A R s => knd.room A.in1 ∧ ∃ k xs, knd.is s.heap k a ∧ s.heap.DictOfH knd d xs ∧ xs.length ≤ sizeLine ∧
      (∀ p, atKey xs k = some p → R (.ok (.ret p.2)) { s with toks := s.toks + knd.draws k }) ∧
      (atKey xs k = none → ∀ h', h'.DictOfH knd d (xs ++ [(k, a, v)]) → Heap.SameBut d s.heap h' → R (.ok (.ret v)) { s with heap := h', toks := s.toks + knd.draws k })) :=
  .of_wp fun A R s ⟨hu, k, xs, hk, hm, hz, h1, h2⟩ => by
    unfold Builtin.«dict.setdefault»
    refine wpAny_bind ?_
    unfold Builtin.Dict.keyAndDefault
    refine wpAny_bind (wpAny_notOrdered_dict hm.typeIs (wpAny_pure ?_))
    show wpAny _ _ (if (d == sysModules) = true then _ else (dictSetDefault d (.ref a) v >>= _)) _ _ _
    rw [if_neg (by rw [hd]; exact Bool.false_ne_true)]
    exact wpAny_bind (setdef_heap hu hk hm hz (fun p hp => wpAny_pure ⟨p.2, rfl, h1 p hp⟩) fun hn h' hm' hs' => wpAny_pure ⟨v, rfl, h2 hn h' hm' hs'⟩)
end
end L2
namespace L2
open PySem PySem.Spec PyProof.Rows

abbrev KP := Int × List Int
def PKy (H : Hp) (k : KP) (b : Addr) : Prop := ∃ v c vs, H b = some (.tup [v, .ref c]) ∧ nV v = some k.1 ∧ H c = some (.tup vs) ∧ Nums vs k.2
abbrev PRel : KP × Addr × V → KP × Addr × Value → Prop := fun p q => p.1 = q.1 ∧ p.2.1 = q.2.1 ∧ RelV p.2.2 q.2.2
def PD (P : Program) (w : World) (a : Addr) (xs : List (KP × Addr × V)) : HO := .ext fun h => xs.length ≤ sizeLine ∧ (a == sysModules) = false ∧ ∃ us, Paired PRel xs us ∧
  ∃ o es ep, h.get? a = some o ∧ o.ExactDict ∧ o.data = .dict es ep ∧ es.toList = us.map (entryOfKey (pairKind P w)) ∧ (us.map (·.1)).Nodup
def PKs (H : Hp) (xs : List (KP × Addr × V)) : Prop := ∀ x ∈ xs, PKy H x.1 x.2.1
theorem PKy.same {H H' : Hp} {k : KP} {b : Addr} (h : PKy H k b) (s : ∀ c ys, H c = some (.tup ys) → H' c = some (.tup ys)) : PKy H' k b := by
  obtain ⟨v, c, vs, h1, h2, h3, h4⟩ := h
  exact ⟨v, c, vs, s _ _ h1, h2, s _ _ h3, h4⟩
theorem pk_is {P : Program} {w : World} {H : Hp} {h : Heap} {k : KP} {b : Addr} (ok : HOk P w H h) (e : PKy H k b) : PairKey P w h k b := by
  obtain ⟨v, c, vs, h1, h2, h3, h4⟩ := e
  obtain ⟨_, its, r, o, g1, g2, n, g3⟩ := (show ObjOk P w H h b (.tup [v, .ref c]) from ok b _ h1)
  obtain ⟨_, jts, r', o', f1, f2, m, f3⟩ := (show ObjOk P w H h c (.tup vs) from ok c _ h3)
  cases r with
  | @cons _ u _ us ru t =>
    cases t with
    | @cons _ u2 _ us2 ru2 t2 =>
      cases t2
      cases ru2
      exact ⟨o, u, c, n, g1, g2, g3, nV_is (P := P) (w := w) h2 ru, o', jts.toArray, m, f1, f2, f3, by simpa using nums_are h4 r'⟩

def atP (xs : List (KP × Addr × V)) (k : KP) : Option V := (xs.find? fun x => decide (x.1 = k)).map (·.2.2)
theorem prel_at {xs : List (KP × Addr × V)} {us : List (KP × Addr × Value)} (r : Paired PRel xs us) (k : KP) : RelO (atP xs k) ((atKey us k).map (·.2)) := by
  induction r with
  | nil => exact True.intro
  | @cons p q ps qs h t ih =>
    obtain ⟨h1, h2, h3⟩ := h
    by_cases e : p.1 = k
    · have e' : q.1 = k := h1.symm.trans e
      have b : atKey (q :: qs) k = some q.2 := by simp [atKey, List.find?_cons, e']
      have c : atP (p :: ps) k = some p.2.2 := by simp [atP, List.find?_cons, e]
      rw [b, c]; exact h3
    · have e' : ¬ q.1 = k := fun z => e (h1.trans z)
      have b : atKey (q :: qs) k = atKey qs k := by simp [atKey, List.find?_cons, e']
      have c : atP (p :: ps) k = atP ps k := by simp [atP, List.find?_cons, e]
      rw [b, c]; exact ih
section
variable {X : Cx} {pins : List (Addr × Obj)} {σ : St} {H : Hp} {s : Shared} {a : Addr} {xs : List (KP × Addr × V)}
theorem pd_of (I : Inv X pins σ H s) (e : H a = some (PD X.prog X.w a xs)) (hk : PKs H xs) : xs.length ≤ sizeLine ∧ (a == sysModules) = false ∧ ∃ us, Paired PRel xs us ∧ s.heap.DictOfH (pairKind X.prog X.w) a us := by
  obtain ⟨z, hd, us, r, o, es, ep, g1, g2, g3, g4, g5⟩ := (show ObjOk X.prog X.w H s.heap a (PD X.prog X.w a xs) from I.hok _ _ e).1
  refine ⟨z, hd, us, r, o, es, ep, g1, g2, g3, g4, ?_, g5⟩
  clear g4 g5 z e
  induction r with
  | nil => intro x hx; cases hx
  | @cons p q ps qs h t ih =>
    intro x hx
    rcases List.mem_cons.mp hx with rfl | hx
    · have := pk_is I.hok (hk p List.mem_cons_self)
      rw [h.1, h.2.1] at this
      exact this
    · exact ih (fun y hy => hk y (List.mem_cons_of_mem _ hy)) x hx
theorem pd_new {P : Program} {w : World} {H : Hp} {h : Heap} {us : List (KP × Addr × Value)} (z : xs.length ≤ sizeLine) (hd : (a == sysModules) = false) (r : Paired PRel xs us) (dd : h.DictOfH (pairKind P w) a us) : ObjOk P w H h a (PD P w a xs) := by
  obtain ⟨o, es, ep, g1, g2, g3, g4, _, g5⟩ := dd
  exact ⟨⟨z, hd, us, r, o, es, ep, g1, g2, g3, g4, g5⟩, ⟨o, g1⟩, fun h1 h2 ⟨z, hd, us, r, o, es, ep, g1, m⟩ k => ⟨z, hd, us, r, o, es, ep, k o g1, m⟩⟩
def tPNew (P : Program) (w : World) : TE := fun _ H Q => ∀ p, H p = none → Q (.ref p) (upd H p (PD P w p []))
theorem pe_pnew {pos : Pos} : PE X (.Dict [] [] pos) (tPNew X.prog X.w) := fun pins s σ H Q I h =>
  wpAny_Dict_empty ⟨.ref s.heap.objs.size, _, I.laid (a := s.heap.objs.size) (o := PD X.prog X.w s.heap.objs.size []) (t' := s.toks) (fun _ _ q => Heap.get?_push_of_some _ q) (Nat.le_refl _)
    (pd_new (Nat.zero_le _) (beq_eq_false_iff_ne.mpr (Ne.symm (Nat.ne_of_lt I.big))) .nil (Heap.DictOfH.new s.heap)), rfl, h _ (I.hok.fresh (Nat.le_refl _))⟩
theorem call_lenP : CallR X (.builtin "len") (fun vs H Q => ∃ a xs, vs = [V.ref a] ∧ H a = some (PD X.prog X.w a xs) ∧ PKs H xs ∧ Q (.int xs.length) H) := by
  intro pins s σ H vs us Q I r h
  obtain ⟨a, xs, rfl, ha, hk, q⟩ := h
  obtain ⟨u, rfl, ru⟩ := vals1 r
  cases ru
  obtain ⟨z, hd, us, rel, o, es, ep, g1, g2, g3, g4, _⟩ := pd_of I ha hk
  have hl : es.size = xs.length := by
    rw [size_of_entries g4, Paired.length rel]
  have tD : s.TypeIs (.ref a) "dict" := ⟨o, g1, g2.1⟩
  have szb : (es.size : Int) < 2 ^ 63 := by rw [hl]; rw [sizeLine_eq] at z; omega
  refine Calls.call_function_entry kind_len plain_len entry_len (args_len1 _) ?_
  unfold Builtin.«len»
  refine wpAny_bind (m := oneArg "len" _) (wpAny_pure ?_)
  refine wpAny_bind (m := callSpecial? (.ref a) (Str.ofString "__len__")) (wpAny_callSpecial?_slot (name := Str.ofString "__len__") tD PySem.F.slot_dict_len (wpAny_call_entry PySem.F.slot_dict_len tD PySem.F.entry_dict_len ?_ (PySem.F.args_dict_len_1 _)))
  show wpAny _ _ (dictSize a >>= _) _ _ s
  unfold dictSize
  refine wpAny_bind (wpAny_bind (wpAny_dictEntries g1 g3 (wpAny_pure ?_)))
  show wpAny _ _ (Builtin.Dict.pendingCount a >>= _) _ _ s
  refine wpAny_bind (wpAny_pendingCount_other hd (wpAny_ret_mkInt ?_))
  refine wpAny_bind (wpAny_holding (wpAny_pure (wpAny_bind (wpAny_letGo ?_))))
  show wpAny _ _ (if ((es.size : Nat) : Int) + ((0 : Nat) : Int) < 0 then _ else _) _ _ _
  rw [if_neg (by omega)]
  show wpAny _ _ (if ((es.size : Nat) : Int) + ((0 : Nat) : Int) ≥ 2 ^ 63 then _ else _) _ _ _
  rw [if_neg (by omega)]
  refine wpAny_bind (wpAny_mkInt (wpAny_pure ⟨_, rfl, .int xs.length, H, (I.tok _).tok _, ⟨s.toks + 1, ?_⟩, q⟩))
  rw [hl]
  simp

def tSetDef (P : Program) (w : World) (td ty tx : TE) : TE := fun σ H Q => td σ H fun x H1 => ∃ a xs0, x = .ref a ∧ H1 a = some (PD P w a xs0) ∧ PKs H1 xs0 ∧ ty σ H1 fun y H2 => tx σ H2 fun v H3 => ∃ xs b k, y = .ref b ∧ H3 a = some (PD P w a xs) ∧ PKs H3 xs ∧ PKy H3 k b ∧ xs.length < sizeLine ∧
  (∀ u, atP xs k = some u → Q u H3) ∧ (atP xs k = none → Q v (upd H3 a (PD P w a (xs ++ [(k, b, v)]))))
theorem pe_setdef {o e f : Expr} {apos cpos : Pos} {td ty tx : TE} (hu : X.A.units + 2 < cLine) (ho : PE X o td) (he : PE X e ty) (hf : PE X f tx) (m : M2 X o "setdefault" apos e f cpos) : PE X (.Call (.Attribute o "setdefault" apos) [e, f] [] cpos) (tSetDef X.prog X.w td ty tx) := by
  intro pins s σ H Q I h
  refine wpAny_Call_method m.base m.few m.line PySem.F.plainAttrs_dict PySem.F.slot_dict_setdefault PySem.F.type_dict_setdefault (thn (ho pins s σ H _ I h) fun u s1 ⟨x, H1, I1, rx, a, xs0, ex, d, dk, q1⟩ => ?_)
  subst ex
  obtain rfl : u = Value.ref a := rx
  obtain ⟨_, hd0, us0, _, dd0⟩ := pd_of I1 d dk
  refine ⟨dd0.typeIs, fun c ec => ?_, ?_⟩
  · cases ec
    obtain ⟨ob, _, _, g1, g2, _⟩ := dd0
    exact ⟨ob, g1, g2.2.1⟩
  rw [m.trees]
  refine Calls.callWith_builtin rfl (Calls.evalArgs_plain (Calls.spliced_cons (thn (he pins s1 σ H1 _ I1 q1) fun iv s2 ⟨y, H2, I2, ry, q2⟩ => Calls.spliced_cons (thn (hf pins s2 σ H2 _ I2 q2) fun fv s3 ⟨v, H3, I3, rz, xs, b, k, ey, e3, hk, kb, hlt, q3, q4⟩ => Calls.spliced_nil ?_))))
  subst ey
  obtain rfl : iv = Value.ref b := ry
  obtain ⟨z, hd, us, rel, dd⟩ := pd_of I3 e3 hk
  refine call_meetsIn PySem.F.slot_dict_setdefault dd.typeIs PySem.F.entry_dict_setdefault (PySem.F.args_dict_setdefault_3 _ _ _) (meets_setdefH (knd := pairKind X.prog X.w) a b hd fv) ⟨(by show X.A.units + 1 + 1 < cLine; omega), k, us, pk_is I3.hok kb, dd, by rw [← Paired.length rel]; exact z, fun p hp => ?_, fun hn h' dd' hs => ?_⟩
  · have r := prel_at rel k
    rw [hp] at r
    cases ea : atP xs k with
    | none => rw [ea] at r; exact r.elim
    | some u => rw [ea] at r; exact ⟨u, H3, I3.tok _, r, q3 u ea⟩
  · have r := prel_at rel k
    rw [hn] at r
    cases ea : atP xs k with
    | some u => rw [ea] at r; exact r.elim
    | none =>
      have he : ∃ q, h'.get? a = some q := let ⟨q, _, _, hq, _⟩ := dd'; ⟨q, hq⟩
      exact ⟨v, _, d_write I3 (by rw [e3]; exact True.intro) hs he (pd_new (by rw [List.length_append]; exact hlt) hd (Paired.snoc rel ⟨rfl, rfl, rz⟩) dd'), rz, q4 ea⟩
end
end L2
namespace L2
open PySem PySem.Spec PyProof.Rows

section
variable {prog : Program} {w : World} {A : Around} {R : Result → Shared → Prop} {I : Addr} {fp wr : List Addr} {G : Array GenState → Array GenState → Prop} {n : Nat} {P : Nat → Value → Prop} {Sx : Nat → Shared → Prop}
theorem num_scan {k : Int} {v : Value} (h : numIs k v = true) : v.scannable = true := by
  rcases numIs_shape h with ⟨t, rfl⟩ | ⟨b, rfl, _⟩ <;> rfl
theorem set_loopN (W : WalksS prog w A.in1 I fp wr G n P Sx) (S : Addr) (nf : S ∉ fp) (val : Nat → Int) (hv : ∀ i v, P i v → numIs (val i) v = true) (hb : n + 1 < scanBound) :
    ∀ (k i : Nat) (s : Shared), n - i = k → i ≤ n → Sx i s → s.heap.SetOf (numKind prog w) S (fun k' => (firstMet val i).any (· == k')) (firstMet val i).length →
      (∀ s', Moved (S :: wr) G s s' → s'.heap.SetOf (numKind prog w) S (fun k' => (firstMet val n).any (· == k')) (firstMet val n).length → R (.ok (.ret .none)) s') →
      codeAny (model prog w) A (.builtin "set.update.loop" ⟨[.ref S, .ref I], []⟩) R s := by
  have nw : S ∉ wr := fun h => nf (W.sub _ h)
  have sub : ∀ b ∈ wr, b ∈ S :: wr := fun b hb => List.mem_cons_of_mem _ hb
  intro k
  induction k with
  | zero =>
    intro i s hk hi hst hS hR
    have ein : i = n := by omega
    subst ein
    refine codeAny_builtin PyProof.Rows.F.entry_set_update_loop ?_
    rw [Around.under_plainId PyProof.Rows.F.plain_set_update_loop _]
    show wpAny _ A.in1 (pyNext (.ref I) >>= _) _ _ _
    refine wpAny_bind (W.done s _ _ hst fun s' hm => ?_)
    show wpAny _ A.in1 (ret Value.none) _ _ _
    exact wpAny_pure (hR s' (hm.mono sub) (by obtain ⟨o, es, ep, t, ho, rest⟩ := hS; exact ⟨o, es, ep, t, hm.heap S _ nw ho, rest⟩))
  | succ k ih =>
    intro i s hk hi hst hS hR
    have hlt : i < n := by omega
    refine codeAny_builtin PyProof.Rows.F.entry_set_update_loop ?_
    rw [Around.under_plainId PyProof.Rows.F.plain_set_update_loop _]
    show wpAny _ A.in1 (pyNext (.ref I) >>= _) _ _ _
    refine wpAny_bind (W.item i s _ _ hlt hst fun v s' hP hst' hm => ?_)
    have kv := hv i v hP
    have hS' : s'.heap.SetOf (numKind prog w) S (fun k' => (firstMet val i).any (· == k')) (firstMet val i).length := by obtain ⟨o, es, ep, tb, ho, rest⟩ := hS; exact ⟨o, es, ep, tb, hm.heap S _ nw ho, rest⟩
    show wpAny _ A.in1 (holding [v] (setAdd S v) >>= _) _ _ _
    refine wpAny_bind (wpAny_holding ?_)
    unfold setAdd
    refine wpAny_holding (wpAny_bind ((numKind prog w).pyHash (k := val i) kv ?_))
    have room : (firstMet val i).length + 1 < scanBound := by have := firstMet_length_le val i; omega
    refine wpAny_setAddHashed_of (knd := numKind prog w) (s := { s' with toks := s'.toks + 1 }) kv (num_scan kv) hS' room fun h' hsb hS2 => ?_
    have hSi : h'.SetOf (numKind prog w) S (fun k' => (firstMet val (i + 1)).any (· == k')) (firstMet val (i + 1)).length := SetOf_congr hS2 (fun k' => by rw [firstMet_succ, step_any]) (by rw [firstMet_succ, step_length])
    refine wpAny_pure ⟨plainId_quiet PyProof.Rows.F.plain_set_update_loop _, ih (i + 1) _ (by omega) hlt (W.frame _ s' _ _ hst' (Nat.le_succ _) fun b hb o e => ?_) hSi fun s'' hm'' hS'' => ?_⟩
    · rw [hsb.2 b (fun h : b = S => nf (by rw [← h]; exact hb))]
      exact e
    · refine hR s'' (Moved.trans W.gtrans ((hm.mono sub).then_heap (Nat.le_succ _) fun b o hb e => ?_) hm'') hS''
      rw [hsb.2 b (fun h : b = S => hb (by rw [h]; exact List.mem_cons_self))]
      exact e
end
section
variable {prog : Program} {w : World} {A : Around} {E : Value → Shared → Prop} {s : Shared}
abbrev newSet (led : Bool) : Obj := { cls := .type "set", dict := none, data := .set #[] 0 (.fresh 0 0 led) }
set_option maxRecDepth 100000 in
set_option maxHeartbeats 3200000 in
theorem set_listN {l : Addr} {its : Array Value} {ns : List Int} {Q : Value → Shared → Prop} (hh : A.handled = none) (hl : s.heap.IsList l its) (hi : ∀ (i : Nat) (v : Value), its[i]? = some v → numIs (ns.getD i 0) v = true) (hb : its.size + 1 < scanBound)
    (h : ∀ (h' : Heap) (tk : Nat), h'.SetOf (numKind prog w) s.heap.objs.size (fun k' => (firstMet (fun i => ns.getD i 0) its.size).any (· == k')) (firstMet (fun i => ns.getD i 0) its.size).length →
      (∀ b o, b < s.heap.objs.size → s.heap.get? b = some o → h'.get? b = some o) → Q (.ref s.heap.objs.size) { s with heap := h', toks := tk }) :
    wpAny (model prog w) A (call (.type "set") [.ref l]) Q E s := by
  obtain ⟨c, tl, hmro⟩ := PySem.F.called_set.mro
  have hmade := PySem.F.called_set.made
  have hsub := PySem.F.called_set.sub
  refine wpAny_call (codeAny_of_tree ?_)
  show wpAny _ _ (callAny (.type "set") _) _ _ s
  refine wpAny_pure ⟨Code.quiet_builtin _ (by decide +kernel), codeAny_builtin PySem.F.entry_type_call ?_⟩
  rw [Around.under_plain (weight_type_call_type "set" [.ref l] []) rfl]
  have h1 := PySem.F.called_set.notType
  have h2 := PySem.F.called_set.canCreate
  have hct := PySem.F.typeCall_set_1 (.ref l)
  repeat (any_goals (first | assumption | wp_step))
  refine codeAny_mono (code_set_new_1 (.ref l) (E := E) (Q₁ := fun obj s₁ => ∃ led : Bool, obj = .ref s.heap.objs.size ∧ s₁ = { s with heap := s.heap.push (newSet led) }) fun led => ⟨led, rfl, rfl⟩) fun r s₁ hr => ?_
  cases r with
  | error e => exact hr
  | ok fl =>
    cases fl with
    | ret obj =>
      obtain ⟨led, rfl, rfl⟩ := hr
      have gS : (s.heap.push (newSet led)).get? s.heap.objs.size = some (newSet led) := Heap.get?_push_size _ rfl
      have tS : Shared.TypeIs { s with heap := s.heap.push (newSet led) } (.ref s.heap.objs.size) "set" := ⟨_, gS, rfl⟩
      have hli := PySem.F.called_set.init.lookup
      have hbi := PySem.F.called_set.init.bind (.ref s.heap.objs.size)
      repeat (any_goals (first | assumption | wp_step))
      refine codeAny_mono (codeAny_call_builtin (R := wants (fun r s₂ => r = .none ∧ ∃ h' tk, s₂ = { s with heap := h', toks := tk } ∧
          h'.SetOf (numKind prog w) s.heap.objs.size (fun k' => (firstMet (fun i => ns.getD i 0) its.size).any (· == k')) (firstMet (fun i => ns.getD i 0) its.size).length ∧
          (∀ b o, b < s.heap.objs.size → s.heap.get? b = some o → h'.get? b = some o)) E) PySem.F.called_set.init.plain PySem.F.entry_set_init (check_set_init_1 tS ?_)) fun r₂ s₂ hr₂ => ?_
      · obtain ⟨ol, hol, hcl, nl, hdl⟩ := hl
        obtain ⟨ocls, odict, odata, oslots⟩ := ol
        simp only at hcl hdl
        subst hcl; subst hdl
        have gl : (s.heap.push (newSet led)).get? l = some { cls := .type "list", dict := odict, data := .seq its nl, slots := oslots } := Heap.get?_push_of_some _ hol
        have hsls := PySem.F.sub_list_set
        have hslf := PySem.F.sub_list_frozenset
        have hne : (Value.type "list" == Value.type "dict") = false := by decide
        have il : (s.heap.push (newSet led)).IsList l its := ⟨_, gl, rfl, nl, rfl⟩
        unfold Builtin.«set.__init__» noKeywords Builtin.Frozenset.updateFrom
        generalize hPI : pyIter = PI
        wp_walk
        subst hPI
        refine wpAny_pyIter_list il (wpAny_bind (wpAny_runValue ?_))
        have ll : l < s.heap.objs.size := Heap.lt_size hol
        have h3 : A.in1.in1.in1.handled = none := by simp [hh]
        have nI : l ≠ (s.heap.push (newSet led)).objs.size := by rw [Heap.size_push]; exact Nat.ne_of_lt (Nat.lt_succ_of_lt ll)
        have nS : s.heap.objs.size ∉ [(s.heap.push (newSet led)).objs.size, l] := by
          rw [Heap.size_push]
          simp only [List.mem_cons, List.mem_singleton, List.not_mem_nil, or_false, not_or]
          exact ⟨Nat.ne_of_lt (Nat.lt_succ_self _), Nat.ne_of_gt ll⟩
        refine set_loopN ((Walks.list h3 _ l nI its).toS) s.heap.objs.size nS (fun i => ns.getD i 0) hi hb (its.size - 0) 0 _ (by omega) (Nat.zero_le _) ⟨⟨_, Heap.get?_push_size _ rfl, rfl, rfl⟩, (il.push _)⟩ ?a1 ?a2
        case a1 =>
          have g1 : ((s.heap.push (newSet led)).push { cls := .type "list_iterator", data := .fields #[.ref l, .int 0 0] }).get? s.heap.objs.size = some (newSet led) := Heap.get?_push_of_some _ gS
          exact SetOf_congr ((setObjOf_fresh (knd := numKind prog w) led).setOf g1 (by unfold scanBound; omega)) (fun _ => rfl) rfl
        case a2 =>
          intro s' hm hS'
          obtain ⟨h', g', d', tk', os'⟩ := s'
          have eg : g' = s.gens := hm.gens
          have ed : d' = s.drawn := hm.drawn
          have eo : os' = s.os := hm.os
          subst eg; subst ed; subst eo
          show wpAny _ _ _ _ _ _
          refine wpAny_pure ?_
          show wpAny _ _ (ret Value.none) _ _ _
          refine wpAny_pure ⟨rfl, h', tk', rfl, hS', fun b o hb e => ?_⟩
          have n1 : b ≠ s.heap.objs.size := Nat.ne_of_lt hb
          have n2 : b ≠ (s.heap.push (newSet led)).objs.size := by rw [Heap.size_push]; exact Nat.ne_of_lt (Nat.lt_succ_of_lt hb)
          exact hm.heap b o (by simp only [List.mem_cons, List.mem_singleton, List.not_mem_nil, or_false, not_or]; exact ⟨n1, n2⟩) (Heap.get?_push_of_some _ (Heap.get?_push_of_some _ e))
      · cases r₂ with
        | error e => exact hr₂
        | ok fl₂ =>
          cases fl₂ with
          | ret r =>
            obtain ⟨rfl, h', tk, rfl, hS', hk'⟩ := hr₂
            repeat (any_goals (first | assumption | wp_step))
            exact h _ _ hS' hk'
          | _ => exact hr₂.elim
    | _ => exact hr.elim
end

def NS (P : Program) (w : World) (a : Addr) (S : Int → Bool) (n : Nat) : HO := .ext fun h => h.SetOf (numKind P w) a S n
section
variable {X : Cx}
theorem call_setN (hc : X.calm = true) : CallR X (.type "set") (fun xs H Q => ∃ p vs ns, xs = [.ref p] ∧ SqL X.K H p vs ∧ Nums vs ns ∧ ns.length ≤ 1000 ∧ ∀ a, H a = none → Q (.ref a) (upd H a (NS X.prog X.w a (inI ns) (manyI ns)))) := by
  intro pins s σ H xs us Q I r h
  obtain ⟨p, vs, ns, rfl, hq, hN, hn, q⟩ := h
  obtain ⟨u, rfl, rx⟩ := vals1 r
  cases rx
  obtain ⟨its, r', pl, hz⟩ := I.list hq
  have hlen := r'.length
  have hl2 := hN.length
  refine set_listN (its := its.toArray) (ns := ns) (I.ok.hd hc) pl.isList (fun i v hv => ?_) (by unfold scanBound; rw [List.size_toArray]; omega) fun h' tk hS hk => ?_
  · have hv' : its[i]? = some v := by simpa using hv
    have hi : i < its.length := (List.getElem?_eq_some_iff.mp hv').1
    obtain ⟨n, en⟩ : ∃ n, ns[i]? = some n := ⟨ns[i]'(by omega), by simp⟩
    obtain ⟨x, ex, nx⟩ := hN.get en
    obtain ⟨u, eu, ru⟩ := r'.get ex
    rw [hv'] at eu
    cases eu
    rw [show ns.getD i 0 = n by simp [List.getD, en]]
    exact nV_is (P := X.prog) (w := X.w) nx ru
  · rw [show its.toArray.size = ns.length by rw [List.size_toArray, ← hlen, hl2]] at hS
    refine ⟨.ref s.heap.objs.size, _, I.laid (t' := tk) (o := NS X.prog X.w s.heap.objs.size (inI ns) (manyI ns)) (fun b o e => hk b o (Heap.lt_size e) e) (Nat.le_refl _) ?_, rfl, q _ (I.hok.fresh (Nat.le_refl _))⟩
    refine ⟨hS, ?_, fun h1 h2 ⟨o, es, ep, t, g, m⟩ k => ⟨o, es, ep, t, k o g, m⟩⟩
    obtain ⟨o, _, _, _, g, _⟩ := hS
    exact ⟨o, g⟩
theorem call_lenNS : CallR X (.builtin "len") (fun xs H Q => ∃ a S n, xs = [V.ref a] ∧ H a = some (NS X.prog X.w a S n) ∧ Q (.int n) H) := by
  intro pins s σ H xs us Q I r h
  obtain ⟨a, S, n, rfl, ha, q⟩ := h
  obtain ⟨u, rfl, ru⟩ := vals1 r
  cases ru
  obtain ⟨o, es, ep, t, ho, hex, hd, _, _, hb, hf, hn⟩ := (show ObjOk X.prog X.w H s.heap a (NS X.prog X.w a S n) from I.hok _ _ ha).1
  subst hn
  unfold scanBound at hb
  exact call_len_set ho hex hd hf (by omega) ⟨.int es.size, H, I.tok _, ⟨_, rfl⟩, q⟩
end
end L2
namespace HT
open PySem PySem.Spec PyProof.Rows
section
variable {prog : Program} {w : World} {A : Around} {E : Value → Shared → Prop} {s : Shared}
theorem getItem_tuple_whole {t sl : Addr} {items : Array Value} {vl vu : Value} {lo hi : Option Int} {Q : Value → Shared → Prop} (ht : IsTup s.heap t items) (hs : s.heap.IsSliceOf sl vl vu .none) (pl : IsPart vl lo) (pu : IsPart vu hi)
    (h1 : sIx items.size 0 lo = 0) (h2 : sIx items.size items.size hi = items.size) (h : Q (.ref t) s) : wpAny (model prog w) A (getItem (.ref t) (.ref sl)) Q E s := by
  obtain ⟨os, hos, hcs, hds⟩ := id hs
  have hTs : s.TypeIs (.ref sl) "slice" := ⟨os, hos, hcs⟩
  unfold getItem
  try with_reducible refine wpAny_holding ?_
  first | refine wpAny_bind (wpAny_pure ?_) | skip
  refine wpAny_bind (wpAny_sequenceKey ht.typeIs (by decide) ?_)
  refine wpAny_bind (wpAny_callSpecial?_slot (name := Str.ofString "__getitem__") ht.typeIs PyProof.Rows.slot_tuple_getitem
    (wpAny_call_entry PyProof.Rows.slot_tuple_getitem ht.typeIs entry_tuple_getitem ?_ (args_tuple_getitem _ _)))
  show wpAny _ _ (Builtin.Tuple.tupleItemsOf (.ref t) >>= _) _ _ s
  refine wpAny_bind (tupleItemsOf_ ht ?_)
  refine wpAny_bind (wpAny_typeOf hTs ?_)
  rw [if_pos (by decide)]
  refine wpAny_bind (sliceApplied_gen hs pl pu ?_)
  have hyes : (((sIx items.size 0 lo : Nat) : Int) == 0 && (1 : Int) == 1 && (sIx items.size items.size hi - sIx items.size 0 lo) == items.size) = true := by
    rw [h1, h2]
    simp
  show wpAny _ _ (if (((sIx items.size 0 lo : Nat) : Int) == 0 && (1 : Int) == 1 && (sIx items.size items.size hi - sIx items.size 0 lo) == items.size) = true then _ else _) _ _ s
  rw [if_pos hyes]
  show wpAny _ _ (Builtin.Tuple.tupleIsExact (.ref t) >>= _) _ _ s
  refine wpAny_bind (wpAny_bind (wpAny_typeOf ht.typeIs (wpAny_pure ?_)))
  rw [if_pos (by decide)]
  refine wpAny_bind (wpAny_rule (wpAny_bind (wpAny_pure (wpAny_pure ⟨_, rfl, wpAny_pure h⟩))))
end
end HT
namespace L2
open PySem PySem.Spec PyProof.Rows

def rSlA : V → Option Int → Option Int → Hp → VK → Prop := fun x lo hi H Q => ∃ a xs, x = .ref a ∧ H a = some (.tup xs) ∧ ∀ p H', Same H H' → H' p = some (.tup (cutV xs lo hi)) → Q (.ref p) H'
theorem sl_tupA {X : Cx} : SlR X rSlA := by
  intro pins s σ H x v vl vu lo hi sl Q I rx hs pl pu h
  obtain ⟨a, xs, rfl, hx, q⟩ := h
  by_cases hw : HT.sIx xs.length 0 lo = 0 ∧ HT.sIx xs.length xs.length hi = xs.length
  · cases rx
    obtain ⟨its, r, ht, hz⟩ := I.tuple (SqT.of hx)
    have hlen : its.toArray.size = xs.length := by rw [List.size_toArray]; exact r.length.symm
    refine ⟨"tuple", _, PyProof.Rows.slot_tuple_getitem.lookup, ht.typeIs, ?_⟩
    refine HT.getItem_tuple_whole ht hs pl pu (by rw [hlen]; exact hw.1) (by rw [hlen]; exact hw.2) ⟨.ref a, H, I, rfl, q a H (Same.refl H) ?_⟩
    have e : cutV xs lo hi = xs := by
      unfold cutV
      rw [hw.1, hw.2, List.drop_zero, Nat.sub_zero, List.take_length]
    rw [e]
    exact hx
  · exact sl_tup pins s σ H _ v vl vu lo hi sl Q I rx hs pl pu ⟨a, xs, rfl, SqT.of hx, hw, fun p hp => q p _ ((Same.refl H).upd_free hp) upd_same⟩
end L2
namespace L2
open PySem PySem.Spec PyProof.Rows

abbrev IsZipB (h : Heap) (z TI TO : Addr) (f0 : Value) (b : Bool) : Prop :=
  h.get? z = some { cls := .type "zip", dict := none, data := .fields #[f0, .bool b, .bool false, .ref TI, .ref TO], slots := #[] }
section
variable {prog : Program} {w : World} {A : Around} {E : Value → Shared → Prop} {s : Shared}
variable {z TI TO i1 i2 l1 l2 : Addr} {J1 J2 : Nat → Heap → Prop} {C1 C2 : Array Value → Heap → Prop} {k1 k2 : Nat} {xs ys : Array Value} {x y : Value}
theorem zip_taken {a : Addr} {b : Bool} {o : Obj} {Q : Bool → Shared → Prop} (gz : IsZipB s.heap z TI TO (rawInt a) b) (ga : s.heap.get? a = some o)
    (q : ∀ h', IsZipB h' z TI TO (rawInt a) true → Heap.SameBut z s.heap h' → Q false { s with heap := h' }) : wpAny (model prog w) A (Builtin.SmallTypes.ownedTupleIsFree (.ref z)) Q E s := by
  unfold Builtin.SmallTypes.ownedTupleIsFree
  refine wpAny_bind (wpAny_field gz rfl (x := rawInt a) rfl ?_)
  show wpAny _ _ (loadIfAlive (((a : Nat) : Int).toNat) >>= _) _ _ _
  refine wpAny_bind ?_
  have hl : wpAny (model prog w) A (loadIfAlive a) (fun r s' => r = some o ∧ s' = s) E s := fun Γ p _ => by
    show Sem.wp _ Γ (.loadIfAlive a _) _ _ _ _
    rw [Sem.wp_loadIfAlive]
    rw [ga]
    exact ⟨rfl, rfl⟩
  rw [Int.toNat_natCast]
  refine thn hl fun r s' ⟨e1, e2⟩ => ?_
  subst e1 e2
  show wpAny _ _ (field (.ref z) 1 >>= _) _ _ _
  refine wpAny_bind (wpAny_field gz rfl (x := .bool b) rfl ?_)
  cases b with
  | true => exact wpAny_pure (q _ gz (Heap.SameBut.refl _ _))
  | false =>
    show wpAny _ _ (setField (.ref z) 1 (.bool true) >>= _) _ _ _
    exact wpAny_bind (wpAny_setField_rec gz (by simp) fun hA zA sA => wpAny_pure (q hA zA sA))
theorem zipg_later {a : Addr} {b : Bool} {o : Obj} {Q : Value → Shared → Prop} (D : ZipApart z TI TO i1 i2 l1 l2) (S1 : Src prog w i1 l1 J1 C1) (S2 : Src prog w i2 l2 J2 C2) (gz : IsZipB s.heap z TI TO (rawInt a) b) (ga : s.heap.get? a = some o) (gI : IsPair s.heap TI (.ref i1) (.ref i2))
    (j1 : J1 k1 s.heap) (j2 : J2 k2 s.heap) (c1 : C1 xs s.heap) (c2 : C2 ys s.heap) (hx : xs[k1]? = some x) (hy : ys[k2]? = some y)
    (q : ∀ h', IsZipB h' z TI TO (rawInt a) true → J1 (k1 + 1) h' → J2 (k2 + 1) h' → IsPair h' s.heap.objs.size x y →
      (∀ c o, c ≠ z → c ≠ i1 → c ≠ i2 → s.heap.get? c = some o → h'.get? c = some o) → Q (.ref s.heap.objs.size) { s with heap := h' }) :
    wpAny (model prog w) A (Builtin.«zip.__next__» ⟨[.ref z], []⟩) (fun fin s' => ∃ v, fin = .done (.ret v) ∧ Q v s') E s := by
  show wpAny _ _ (field (.ref z) 2 >>= _) _ _ s
  refine wpAny_bind (wpAny_field gz rfl (x := .bool false) rfl ?_)
  show wpAny _ _ (field (.ref z) 3 >>= _) _ _ s
  refine wpAny_bind (wpAny_field gz rfl (x := .ref TI) rfl (wpAny_bind (wpAny_seqItems gI rfl ?_)))
  show wpAny _ _ (Builtin.SmallTypes.ownedTupleIsFree (.ref z) >>= _) _ _ s
  refine wpAny_bind (zip_taken gz ga fun hA zA sA => ?_)
  simp only [Bool.false_eq_true, if_false]
  rw [← Array.forIn_toList]
  simp only [List.forIn_cons, List.forIn_nil]
  refine wpAny_bind (wpAny_bind (wpAny_bind (wpAny_holding ?_)))
  show wpAny _ _ (Builtin.SmallTypes.nextOf (.ref i1) >>= _) _ _ (_)
  refine wpAny_bind (S1.item A _ _ k1 xs x _ (S1.keep _ _ _ j1 fun o e => sA.extBut _ _ D.i1z e) (S1.seq _ _ _ c1 fun o e => sA.extBut _ _ D.l1z e) hx fun hB jB sB => wpAny_pure ?_)
  refine wpAny_pure (wpAny_bind (wpAny_bind (wpAny_holding ?_)))
  show wpAny _ _ (Builtin.SmallTypes.nextOf (.ref i2) >>= _) _ _ (_)
  have up2 : ∀ c o, c ≠ z → c ≠ i1 → s.heap.get? c = some o → hB.get? c = some o := fun c o n1 n2 e => sB.extBut _ _ n2 (sA.extBut _ _ n1 e)
  refine wpAny_bind (S2.item A _ _ k2 ys y _ (S2.keep _ _ _ j2 fun o e => up2 _ o D.i2z D.i12.symm e) (S2.seq _ _ _ c2 fun o e => up2 _ o D.l2z D.l2i1 e) hy fun hD jD sD => wpAny_pure ?_)
  refine wpAny_pure (wpAny_pure ?_)
  refine wpAny_bind (wpAny_newTuple ?_ (by show 2 ≤ sizeLine; decide))
  have ez : hD.objs.size = s.heap.objs.size := by rw [sD.1, sB.1, sA.1]
  have zD : IsZipB hD z TI TO (rawInt a) true := sD.extBut _ _ D.i2z.symm (sB.extBut _ _ D.i1z.symm zA)
  refine wpAny_pure ⟨_, rfl, ?_⟩
  show Q (.ref hD.objs.size) _
  rw [ez]
  refine q _ (Heap.get?_push_of_some _ zD) (S1.keep _ _ _ jB fun o e => Heap.get?_push_of_some _ (sD.extBut _ _ D.i12 e)) (S2.keep _ _ _ jD fun o e => Heap.get?_push_of_some _ e) ?_ fun c o n1 n2 n3 e => Heap.get?_push_of_some _ (sD.extBut _ _ n3 (up2 c o n1 n2 e))
  rw [← ez]
  exact Heap.get?_push_size _ rfl
theorem zipg_laterEnd {a : Addr} {b : Bool} {o : Obj} {Q : Fin → Shared → Prop} (hh : A.handled = none) (D : ZipApart z TI TO i1 i2 l1 l2) (S1 : Src prog w i1 l1 J1 C1) (gz : IsZipB s.heap z TI TO (rawInt a) b) (ga : s.heap.get? a = some o) (gI : IsPair s.heap TI (.ref i1) (.ref i2))
    (j1 : J1 k1 s.heap) (c1 : C1 xs s.heap) (hx : xs[k1]? = none)
    (q : ∀ h' e, (∀ c o, c ≠ z → c ≠ i1 → s.heap.get? c = some o → h'.get? c = some o) → (∃ o, h'.get? e = some o ∧ o.cls = .type "StopIteration") → E (.ref e) { s with heap := h' }) :
    wpAny (model prog w) A (Builtin.«zip.__next__» ⟨[.ref z], []⟩) Q E s := by
  show wpAny _ _ (field (.ref z) 2 >>= _) _ _ s
  refine wpAny_bind (wpAny_field gz rfl (x := .bool false) rfl ?_)
  show wpAny _ _ (field (.ref z) 3 >>= _) _ _ s
  refine wpAny_bind (wpAny_field gz rfl (x := .ref TI) rfl (wpAny_bind (wpAny_seqItems gI rfl ?_)))
  show wpAny _ _ (Builtin.SmallTypes.ownedTupleIsFree (.ref z) >>= _) _ _ s
  refine wpAny_bind (zip_taken gz ga fun hA zA sA => ?_)
  simp only [Bool.false_eq_true, if_false]
  rw [← Array.forIn_toList]
  simp only [List.forIn_cons, List.forIn_nil]
  refine wpAny_bind (wpAny_bind (wpAny_bind (wpAny_holding ?_)))
  show wpAny _ _ (Builtin.SmallTypes.nextOf (.ref i1) >>= _) _ _ (_)
  refine wpAny_bind (S1.stop A _ _ k1 xs _ hh (S1.keep _ _ _ j1 fun o e => sA.extBut _ _ D.i1z e) (S1.seq _ _ _ c1 fun o e => sA.extBut _ _ D.l1z e) hx fun hB e sB he => ?_)
  exact q hB e (fun c o n1 n3 u => sB _ _ n3 (sA.extBut _ _ n1 u)) he
end
namespace ZF
theorem zip_no_len : typeLookup (.type "zip") "__len__" = pure none := by rw [typeLookup_type, builtinLookup_eq_fast]; kernel_rfl
theorem zip_no_hint : typeLookup (.type "zip") "__length_hint__" = pure none := by rw [typeLookup_type, builtinLookup_eq_fast]; kernel_rfl
end ZF

def ZSt (H : Hp) (t u : Bool) (a b z TI TO i1 i2 : Addr) (i : Nat) (h : Heap) : Prop :=
  IsPair h TI (.ref i1) (.ref i2) ∧ jX t i1 a i h ∧ jX u i2 b i h ∧ (∃ c d, IsPair h TO c d) ∧ (IsZip h z TI TO .none ∨ ∃ (p : Addr) (ys : List V) (bb : Bool), IsZipB h z TI TO (rawInt p) bb ∧ H p = some (.tup ys))

def Zipped (H : Hp) (ts : List Addr) (xs ys : List V) : Prop := ∀ (i : Nat) (t : Addr), ts[i]? = some t → ∃ x y, xs[i]? = some x ∧ ys[i]? = some y ∧ H t = some (.tup [x, y])
theorem Zipped.same {H H' : Hp} {ts : List Addr} {xs ys : List V} (h : Zipped H ts xs ys) (s : TSame H H') : Zipped H' ts xs ys := fun i t e => by
  obtain ⟨x, y, h1, h2, h3⟩ := h i t e
  exact ⟨x, y, h1, h2, s _ _ h3⟩
section
variable {X : Cx} {pins : List (Addr × Obj)} {σ : St} {t u : Bool} {a b z TI TO i1 i2 S : Addr} {xs ys : List V} {H1 : Hp} {A : Around} {R : Result → Shared → Prop} {res : Value}
theorem ext_zip (hh : A.handled = none) (N : ZipApart z TI TO i1 i2 a b) (hS : S ∉ [z, TI, TO, i1, i2]) (hxy : xs.length = ys.length) (hn : xs.length ≤ 1000) (hS1 : H1 S = none) (hxs : ∀ H, Same H1 H → SqX X.K t H a xs) (hys : ∀ H, Same H1 H → SqX X.K u H b ys)
    (hR : ∀ (s' : Shared) (H' : Hp) (ts : List Addr), Inv X pins σ H' s' → Same H1 H' → H' S = some (.lst (ts.map V.ref)) → ts.length = xs.length → Zipped H' ts xs ys → R (.ok (.ret res)) s') :
    ∀ (k i : Nat) (s : Shared) (H : Hp) (ts : List Addr), xs.length - i = k → i ≤ xs.length → Inv X pins σ H s → (∀ b ∈ [z, TI, TO, i1, i2], FpOk X pins H b) → ZSt H t u a b z TI TO i1 i2 i s.heap → Same H1 H → H S = some (.lst (ts.map V.ref)) → ts.length = i → Zipped H ts xs ys →
      codeAny (model X.prog X.w) A (.builtin "list.extend.loop" ⟨[.ref S, .ref z, res], []⟩) R s := by
  intro k
  induction k with
  | zero =>
    intro i s H ts hk hi I hf st sm hL hl hZ
    have hin : i = xs.length := by omega
    subst hin
    refine codeAny_builtin F.entry_extend_loop ?_
    rw [Around.under_plainId F.plain_extend_loop _]
    show wpAny _ A.in1 (pyNext (.ref z) >>= _) _ _ s
    obtain ⟨its, rv, p, _⟩ := I.seqX (hxs H sm)
    have hlen := rv.length
    obtain ⟨g2, g4, g5, ⟨c, d, g3⟩, gz⟩ := st
    have fin : ∀ h' : Heap, (∀ c o, c ≠ z → c ≠ i1 → s.heap.get? c = some o → h'.get? c = some o) → R (.ok (.ret res)) { s with heap := h' } := fun h' hk => by
      refine hR _ H ts (I.turnedL (t' := s.toks) (ch := [z, TI, TO, i1, i2]) hf fun e o he q => ?_) sm hL hl hZ
      simp only [List.mem_cons, List.not_mem_nil, or_false, not_or] at he
      exact hk e o he.1 he.2.2.2.1 q
    rcases gz with g1 | ⟨q, vs, bb, g1, hq⟩
    · exact wpAny_bind (zipg_end (xs := its.toArray) hh N (src_x t i1 a) g1 g2 g4 p (by simp; omega) fun h' hk => wpAny_pure (fin h' hk))
    · have tZ : s.TypeIs (.ref z) "zip" := ⟨_, g1, rfl⟩
      obtain ⟨_, iq, _, o, gq, _⟩ : vs.length ≤ sizeLine ∧ ∃ its : List Value, Vals vs its ∧ IsTup s.heap q its.toArray := I.hok q _ hq
      refine wpAny_bind ?_
      unfold pyNext
      refine wpAny_bind (wpAny_attempt (wpAny_callSpecial?_slot (name := Str.ofString "__next__") tZ PySem.F.slot_zip_next (wpAny_call_entry PySem.F.slot_zip_next tZ PySem.F.entry_zip_next (zipg_laterEnd (xs := its.toArray) hh N (src_x t i1 a) g1 gq g2 g4 p (by simp; omega) fun h' e hk he => ?_) (PySem.F.args_zip_next_1 _))))
      obtain ⟨o, ho, hc⟩ := he
      exact wpAny_bind (wpAny_isInstance (T := "StopIteration") (b := true) ⟨o, ho, hc⟩ isSubtype_stop (wpAny_pure (wpAny_pure (fin h' hk))))
  | succ k ih =>
    intro i s H ts hk hi I hf st sm hL hl hZ
    have hlt : i < xs.length := by omega
    have hlt' : i < ys.length := by omega
    refine codeAny_builtin F.entry_extend_loop ?_
    rw [Around.under_plainId F.plain_extend_loop _]
    show wpAny _ A.in1 (pyNext (.ref z) >>= _) _ _ s
    obtain ⟨its, rv, p, _⟩ := I.seqX (hxs H sm)
    obtain ⟨jts, rv', p', _⟩ := I.seqX (hys H sm)
    obtain ⟨x, hx⟩ : ∃ x, xs[i]? = some x := ⟨xs[i], by simp [hlt]⟩
    obtain ⟨y, hy⟩ : ∃ y, ys[i]? = some y := ⟨ys[i], by simp [hlt']⟩
    obtain ⟨v, hu, ru⟩ := rv.get hx
    obtain ⟨v', hu', ru'⟩ := rv'.get hy
    obtain ⟨g2, g4, g5, ⟨c, d, g3⟩, gz⟩ := st
    have gi1 : i1 < s.heap.objs.size := by obtain ⟨o, _, g, _⟩ := (src_x (prog := X.prog) (w := X.w) t i1 a).obj _ _ g4; exact Heap.lt_size g
    have gi2 : i2 < s.heap.objs.size := by obtain ⟨o, _, g, _⟩ := (src_x (prog := X.prog) (w := X.w) u i2 b).obj _ _ g5; exact Heap.lt_size g
    have gTI : TI < s.heap.objs.size := Heap.lt_size g2
    -- behind the item
    have on : ∀ h' : Heap, IsPair h' s.heap.objs.size v v' → (∀ c o, c ∉ [z, TI, TO, i1, i2] → s.heap.get? c = some o → h'.get? c = some o) → s.heap.objs.size ∉ [z, TI, TO, i1, i2] →
        ZSt (upd H s.heap.objs.size (.tup [x, y])) t u a b z TI TO i1 i2 (i + 1) h' →
        wpAny (model X.prog X.w) A.in1 (updateSeq S (·.push (.ref s.heap.objs.size)) >>= fun _ => again (.builtin "list.extend.loop" ⟨[.ref S, .ref z, res], []⟩))
          (fun fin s' => match fin with | .done f => R (.ok f) s' | .again c' => c'.quiet = true ∧ codeAny (model X.prog X.w) A c' R s') (fun e s' => R (.error e) s') { s with heap := h' } := fun h' hp hkeep hnew st' => by
      have I1 : Inv X pins σ (upd H s.heap.objs.size (.tup [x, y])) { s with heap := h', toks := s.toks } :=
        I.turnedT (ch := [z, TI, TO, i1, i2]) hf hkeep (Nat.le_refl _) ⟨(by show 2 ≤ sizeLine; decide), [v, v'], .cons ru (.cons ru' .nil), ⟨_, hp, rfl, _, rfl⟩⟩
      have hno : H s.heap.objs.size = none := I.hok.fresh (Nat.le_refl _)
      have nSp : S ≠ s.heap.objs.size := ne_of_none hL hno
      have hL1 : (upd H s.heap.objs.size (.tup [x, y])) S = some (.lst (ts.map V.ref)) := by rw [upd_ne nSp]; exact hL
      obtain ⟨lz, its0, n0, rv0, e0, hS0⟩ := I1.lstM hL1
      have hl0 := rv0.length
      rw [List.length_map] at hl0
      refine wpAny_bind (wpAny_updateSeq hS0 rfl (wpAny_pure ⟨plainId_quiet F.plain_extend_loop _, ?_⟩) (by rw [List.size_toArray]; exact Nat.le_of_lt (small1000 (by omega))) (by show (its0.toArray.push _).size ≤ sizeLine + 1; rw [Array.size_push, List.size_toArray]; exact Nat.le_succ_of_le (small1000 (by omega))))
      have I2 := I1.lstUpd (ys := (ts ++ [s.heap.objs.size]).map V.ref) (its' := its0 ++ [.ref s.heap.objs.size]) hL1 hS0 (f := Obj.mapSeq (·.push (.ref s.heap.objs.size))) (by simp [Obj.mapSeq]; rfl) (by
        rw [List.map_append]
        exact Vals.append rv0 (.cons rfl .nil)) (Nat.le_of_lt (small1000 (by rw [List.length_map, List.length_append, List.length_singleton]; omega))) s.toks
      have hsm : Same H (upd H s.heap.objs.size (.tup [x, y])) := (Same.refl H).upd_free hno
      have tsm : TSame H (upd (upd H s.heap.objs.size (.tup [x, y])) S (.lst ((ts ++ [s.heap.objs.size]).map V.ref))) := TSame.upd_lst hsm.tups hL1
      refine ih (i + 1) _ _ (ts ++ [s.heap.objs.size]) (by omega) hlt I2 (fun c hc => ?_) ?_ ((sm.trans hsm).upd_free hS1) upd_same (by rw [List.length_append, hl]; rfl) ?_
      · have q := hf c hc
        refine ⟨?_, q.2⟩
        rw [upd_ne (show c ≠ S from fun e => hS (by rw [← e]; exact hc)), upd_ne (show c ≠ s.heap.objs.size from fun e => hnew (by rw [← e]; exact hc))]
        exact q.1
      · have ks : ∀ c o, c ≠ S → h'.get? c = some o → (h'.update S (Obj.mapSeq (·.push (.ref s.heap.objs.size)))).get? c = some o := fun c o hc e => (Heap.get?_update_other _ _ (Ne.symm hc)).trans e
        simp only [List.mem_cons, List.not_mem_nil, or_false, not_or] at hS
        obtain ⟨q2, q4, q5, ⟨c, d, q3⟩, qz⟩ := st'
        refine ⟨ks _ _ (Ne.symm hS.2.1) q2, (src_x (prog := X.prog) (w := X.w) t i1 a).keep _ _ _ q4 fun o e => ks _ o (Ne.symm hS.2.2.2.1) e, (src_x (prog := X.prog) (w := X.w) u i2 b).keep _ _ _ q5 fun o e => ks _ o (Ne.symm hS.2.2.2.2) e, ⟨c, d, ks _ _ (Ne.symm hS.2.2.1) q3⟩, ?_⟩
        rcases qz with q1 | ⟨q, vs, bb, q1, hq⟩
        · exact .inl (ks _ _ (Ne.symm hS.1) q1)
        · refine .inr ⟨q, vs, bb, ks _ _ (Ne.symm hS.1) q1, ?_⟩
          rw [upd_ne (ne_of hq hL1 (fun z => nomatch z))]
          exact hq
      · intro j tj e
        by_cases hj : j < ts.length
        · rw [List.getElem?_append_left hj] at e
          exact (hZ.same tsm) j tj e
        · have hj2 := (List.getElem?_eq_some_iff.mp e).1
          rw [List.length_append, List.length_singleton] at hj2
          have ej : j = ts.length := by omega
          subst ej
          rw [List.getElem?_append_right (Nat.le_refl _), Nat.sub_self] at e
          cases e
          refine ⟨x, y, by rw [hl]; exact hx, by rw [hl]; exact hy, ?_⟩
          rw [upd_ne (Ne.symm nSp), upd_same]
    have nw : ∀ c : Addr, c < s.heap.objs.size → s.heap.objs.size ≠ c := fun c h e => absurd h (by rw [e]; exact Nat.lt_irrefl _)
    have gTO := Heap.lt_size g3
    rcases gz with g1 | ⟨q, vs, bb, g1, hq⟩
    · have hnew : s.heap.objs.size ∉ [z, TI, TO, i1, i2] := by
        simp only [List.mem_cons, List.not_mem_nil, or_false, not_or]
        exact ⟨nw z (Heap.lt_size g1), nw TI gTI, nw TO gTO, nw i1 gi1, nw i2 gi2⟩
      refine wpAny_bind (zipg_next (xs := its.toArray) (ys := jts.toArray) N (src_x t i1 a) (src_x u i2 b) g1 g2 g3 g4 g5 p p' (by simpa using hu) (by simpa using hu') fun h' b1 b2 b3 b4 b5 b6 b7 => ?_)
      refine on h' b5 (fun e o he q => ?_) hnew ⟨b7 _ _ N.TIz N.TITO N.TIi1 N.TIi2 g2, b3, b4, ⟨_, _, b2⟩, .inr ⟨s.heap.objs.size, [x, y], false, b1, upd_same⟩⟩
      simp only [List.mem_cons, List.not_mem_nil, or_false, not_or] at he
      exact b7 e o he.1 he.2.2.1 he.2.2.2.1 he.2.2.2.2 q
    · have tZ : s.TypeIs (.ref z) "zip" := ⟨_, g1, rfl⟩
      obtain ⟨_, iq, _, o, gq, _⟩ : vs.length ≤ sizeLine ∧ ∃ its : List Value, Vals vs its ∧ IsTup s.heap q its.toArray := I.hok q _ hq
      have hnq : s.heap.objs.size ≠ q := nw q (Heap.lt_size gq)
      have hnew : s.heap.objs.size ∉ [z, TI, TO, i1, i2] := by
        simp only [List.mem_cons, List.not_mem_nil, or_false, not_or]
        exact ⟨nw z (Heap.lt_size g1), nw TI gTI, nw TO gTO, nw i1 gi1, nw i2 gi2⟩
      refine wpAny_bind ?_
      unfold pyNext
      refine wpAny_bind (wpAny_attempt (wpAny_callSpecial?_slot (name := Str.ofString "__next__") tZ PySem.F.slot_zip_next (wpAny_call_entry PySem.F.slot_zip_next tZ PySem.F.entry_zip_next
        (zipg_later (xs := its.toArray) (ys := jts.toArray) N (src_x t i1 a) (src_x u i2 b) g1 gq g2 g4 g5 p p' (by simpa using hu) (by simpa using hu') fun h' b1 b3 b4 b5 b7 => wpAny_pure ?_) (PySem.F.args_zip_next_1 _))))
      refine on h' b5 (fun e o he q => ?_) hnew ⟨b7 _ _ N.TIz N.TIi1 N.TIi2 g2, b3, b4, ⟨c, d, b7 _ _ N.TOz N.TOi1 N.TOi2 g3⟩, .inr ⟨q, vs, true, b1, by rw [upd_ne (Ne.symm hnq)]; exact hq⟩⟩
      simp only [List.mem_cons, List.not_mem_nil, or_false, not_or] at he
      exact b7 e o he.1 he.2.2.2.1 he.2.2.2.2 q
end
theorem Same.seqT {K : PySem.W.Frag} {H H' : Hp} {a : Addr} {xs : List V} (e : Same H H') (h : SqT K H a xs) : SqT K H' a xs := by
  rcases h with (h | ⟨o, h⟩) | h
  · exact .inl (.inl (e _ _ h))
  · exact .inl (.inr ⟨o, e _ _ h⟩)
  · exact .inr h
theorem Same.seqX {K : PySem.W.Frag} {t : Bool} {H H' : Hp} {a : Addr} {xs : List V} (e : Same H H') (h : SqX K t H a xs) : SqX K t H' a xs := by
  cases t
  · exact e.seq (show SqL K H a xs from h)
  · exact e.seqT (show SqT K H a xs from h)
section
variable {X : Cx} {pins : List (Addr × Obj)} {σ : St} {t u : Bool} {a b z TI TO i1 i2 : Addr} {xs ys : List V} {H : Hp} {A : Around} {E : Value → Shared → Prop} {s : Shared}
theorem call_list_zip {Q : Value → Shared → Prop} (hh : A.handled = none) (N : ZipApart z TI TO i1 i2 a b) (I : Inv X pins σ H s) (hf : ∀ b ∈ [z, TI, TO, i1, i2], FpOk X pins H b) (g1 : IsZip s.heap z TI TO .none) (g2 : IsPair s.heap TI (.ref i1) (.ref i2)) (g3 : ∃ c d, IsPair s.heap TO c d) (g4 : jX t i1 a 0 s.heap) (g5 : jX u i2 b 0 s.heap)
    (hxs : SqX X.K t H a xs) (hys : SqX X.K u H b ys) (hxy : xs.length = ys.length) (hn : xs.length ≤ 1000)
    (hQ : ∀ (s' : Shared) (H' : Hp) (ts : List Addr), Inv X pins σ H' s' → Same H H' → H s.heap.objs.size = none → H' s.heap.objs.size = some (.lst (ts.map V.ref)) → ts.length = xs.length → Zipped H' ts xs ys → Q (.ref s.heap.objs.size) s') :
    wpAny (model X.prog X.w) A (call (.type "list") [.ref z]) Q E s := by
  have zlt : z < s.heap.objs.size := Heap.lt_size g1
  obtain ⟨c, d, g3⟩ := g3
  have gi1 : i1 < s.heap.objs.size := by obtain ⟨o, _, g, _⟩ := (src_x (prog := X.prog) (w := X.w) t i1 a).obj _ _ g4; exact Heap.lt_size g
  have gi2 : i2 < s.heap.objs.size := by obtain ⟨o, _, g, _⟩ := (src_x (prog := X.prog) (w := X.w) u i2 b).obj _ _ g5; exact Heap.lt_size g
  have nw : ∀ c : Addr, c < s.heap.objs.size → s.heap.objs.size ≠ c := fun c h e => absurd h (by rw [e]; exact Nat.lt_irrefl _)
  have hS' : s.heap.objs.size ∉ [z, TI, TO, i1, i2] := by
    simp only [List.mem_cons, List.not_mem_nil, or_false, not_or]
    exact ⟨nw z zlt, nw TI (Heap.lt_size g2), nw TO (Heap.lt_size g3), nw i1 gi1, nw i2 gi2⟩
  refine callType_codes (Q₁ := fun obj s₁ => obj = .ref s.heap.objs.size ∧ s₁ = { s with heap := s.heap.push { cls := .type "list", data := .seq #[] } }) F.called_list (F.typeCall_list_1 _) F.entry_list_init
    (code_list_new _ ⟨rfl, rfl⟩) fun obj s₁ h₁ => ?_
  obtain ⟨rfl, rfl⟩ := h₁
  have hS : (s.heap.push { cls := .type "list", data := .seq #[] }).get? s.heap.objs.size = some { cls := .type "list", data := .seq #[] } := Heap.get?_push_size _ rfl
  refine ⟨⟨_, hS, rfl⟩, F.args_list_init_2 _ _, ?_⟩
  generalize hsz : s.heap.objs.size = S at *
  show wpAny _ A.in1.in1 (do let old ← Builtin.List.listItems (.ref S); Builtin.List.listUpdate (.ref S) (fun _ => #[]); letGo old.toList.reverse; Builtin.List.listExtendWith (.ref S) (.ref z) .none) _ _ _
  refine wpAny_bind ?_
  unfold Builtin.List.listItems
  refine wpAny_bind (wpAny_seqItems hS rfl (wpAny_pure ?_))
  show wpAny _ A.in1.in1 (updateSeq S (fun _ => #[]) >>= fun _ => letGo (#[] : Array Value).toList.reverse >>= fun _ => Builtin.List.listExtendWith (.ref S) (.ref z) .none) _ _ _
  refine wpAny_bind (wpAny_updateSeq hS rfl ?_)
  have hS₂ := Heap.get?_update_self (Obj.mapSeq (fun _ => (#[] : Array Value))) hS rfl
  refine wpAny_bind (wpAny_letGo ?_)
  have hSz : S ≠ z := fun e => hS' (by rw [e]; simp)
  have up1 : ∀ e o, e ≠ S → s.heap.get? e = some o → ((s.heap.push { cls := .type "list", data := .seq #[] }).update S (Obj.mapSeq (fun _ => (#[] : Array Value)))).get? e = some o := fun e o he q => (Heap.get?_update_other _ _ (Ne.symm he)).trans (Heap.get?_push_of_some _ q)
  have nS : ∀ e o, s.heap.get? e = some o → e ≠ S := fun e o q z => by
    have := Heap.lt_size q
    rw [hsz, z] at this
    exact Nat.lt_irrefl _ this
  generalize eA : (s.heap.push { cls := .type "list", data := .seq #[] }).update S (Obj.mapSeq (fun _ => (#[] : Array Value))) = hA at *
  have gA : IsZip hA z TI TO .none := up1 _ _ (Ne.symm hSz) g1
  have tZ : Shared.TypeIs { s with heap := hA } (.ref z) "zip" := ⟨_, gA, rfl⟩
  unfold Builtin.List.listExtendWith
  refine wpAny_bind (wpAny_typeOf tZ ?_)
  have h1 : Builtin.List.listSameRef (.ref S) (.ref z) = false := by simp [Builtin.List.listSameRef, hSz]
  have h2 : (Value.type "zip" == Value.type "list") = false := by decide
  have h3 : (Value.type "zip" == Value.type "tuple") = false := by decide
  simp only [h1, h2, h3, Bool.or_false, Bool.false_eq_true, if_false]
  refine wpAny_bind (wpAny_pyIter_zip gA ?_)
  refine wpAny_bind (wpAny_holding ?_)
  unfold Builtin.List.listLengthHint
  refine wpAny_bind (wpAny_specialOf tZ ZF.zip_no_len ?_)
  show wpAny _ A.in1.in1 (specialOf (Value.ref z) (Str.ofString "__length_hint__") >>= _) _ _ _
  refine wpAny_bind (wpAny_specialOf tZ ZF.zip_no_hint ?_)
  refine wpAny_pure ?_
  show wpAny _ A.in1.in1 (rule "list.extend.makes-room" >>= fun _ => Builtin.List.listTouch (.ref S) >>= fun _ =>
    again (.builtin "list.extend.loop" ⟨[.ref S, .ref z, .none], []⟩)) _ _ _
  refine wpAny_bind (wpAny_rule ?_)
  refine wpAny_bind ?_
  show wpAny _ A.in1.in1 (updateSeq S (·.push .none) >>= fun _ => updateSeq S (·.pop)) _ _ _
  refine wpAny_bind (wpAny_updateSeq hS₂ rfl ?_)
  have hS₃ := Heap.get?_update_self (Obj.mapSeq (·.push Value.none)) hS₂ rfl
  refine wpAny_updateSeq (hz := by seq_fits) hS₃ rfl ?_
  have hS₄ := Heap.get?_update_self (Obj.mapSeq (·.pop)) hS₃ rfl
  have up2 : ∀ e o, e ≠ S → s.heap.get? e = some o → ((hA.update S (Obj.mapSeq (·.push Value.none))).update S (Obj.mapSeq (·.pop))).get? e = some o :=
    fun e o he q => (Heap.get?_update_other _ _ (Ne.symm he)).trans ((Heap.get?_update_other _ _ (Ne.symm he)).trans (up1 e o he q))
  generalize eB : (hA.update S (Obj.mapSeq (·.push Value.none))).update S (Obj.mapSeq (·.pop)) = hB at *
  have hno : H S = none := I.hok.fresh (Nat.le_of_eq hsz)
  have I1 : Inv X pins σ (upd H S (.lst [])) { s with heap := hB, toks := s.toks } := I.laid (fun e o q => up2 e o (nS e o q) q) (Nat.le_of_eq hsz) ⟨Nat.zero_le _, [], _, .nil, hS₄⟩
  have sm : Same H (upd H S (.lst [])) := (Same.refl H).upd_free hno
  refine wpAny_pure ⟨plainId_quiet F.plain_extend_loop _, ext_zip (H1 := H) (S := S) (xs := xs) (ys := ys) (X := X) (pins := pins) (σ := σ) (A := A.in1) hh N hS' hxy hn hno (fun H' q => Same.seqX q hxs) (fun H' q => Same.seqX q hys) (fun s' H' ts I' q1 q2 q3 q4 => ?_) xs.length 0 { s with heap := hB, toks := s.toks } _ [] (by omega) (Nat.zero_le _) I1 (fun e he => ?_) ?_ sm upd_same rfl (fun i t e => by simp at e)⟩
  · exact ⟨rfl, hQ s' H' ts I' q1 hno q2 q3 q4⟩
  · have q := hf e he
    refine ⟨?_, q.2⟩
    rw [upd_ne (show e ≠ S from fun z => hS' (by rw [← z]; exact he))]
    exact q.1
  · have k : ∀ e o, s.heap.get? e = some o → hB.get? e = some o := fun e o q => up2 e o (nS e o q) q
    exact ⟨k _ _ g2, (src_x (prog := X.prog) (w := X.w) t i1 a).keep _ _ _ g4 fun o e => k _ o e, (src_x (prog := X.prog) (w := X.w) u i2 b).keep _ _ _ g5 fun o e => k _ o e, ⟨c, d, k _ _ g3⟩, .inl (k _ _ g1)⟩
end
def tLzip (K : PySem.W.Frag) (t u : Bool) (ta : TA) : TE := fun σ H Q => ta σ H fun vs H1 => ∃ a b xs ys, vs = [.ref a, .ref b] ∧ SqX K t H1 a xs ∧ SqX K u H1 b ys ∧ xs.length = ys.length ∧ xs.length ≤ 1000 ∧
  ∀ (l : Addr) (ts : List Addr) (H2 : Hp), Same H1 H2 → H1 l = none → H2 l = some (.lst (ts.map V.ref)) → ts.length = xs.length → Zipped H2 ts xs ys → Q (.ref l) H2

theorem pe_lzip (t u : Bool) {X : Cx} {a b : Expr} {ta : TA} {p pos p' pos' : Pos} (hc : X.calm = true) (hg : Gl X "zip") (hm : X.mg "zip" = none) (hg' : Gl X "list") (hm' : X.mg "list" = none) (ha : PA X [a, b] ta)
    (hs : starEach [a, b] X.env = (false, eval a X.env) :: starEach [b] X.env := by rfl) (hpl : (backTo pos (starEach [b] X.env)).any (·.1) = false := by rfl)
    (hs' : starEach [.Call (.Name "zip" p) [a, b] [] pos] X.env = (false, eval (.Call (.Name "zip" p) [a, b] [] pos) X.env) :: starEach [] X.env := by rfl) (hpl' : (backTo pos' (starEach [] X.env)).any (·.1) = false := by rfl) :
    PE X (.Call (.Name "list" p') [.Call (.Name "zip" p) [a, b] [] pos] [] pos') (tLzip X.K t u ta) := by
  intro pins s σ H Q I h
  refine wpAny_Call_Name_kw (ld_blt I hg' hm' PyProof.Rows.boot_list ?_ (by decide) (by decide))
  refine PyProof.Rows.callWith_type1 ?_ hs' hpl'
  rw [hs']
  show wpAny _ _ (spliced ((false, eval (.Call (.Name "zip" p) [a, b] [] pos) X.env) :: [])) _ _ s
  refine Calls.spliced_cons ?_
  refine Call_ (ld_blt I hg hm boot_zip (PyProof.Rows.callWith_type1 (thn (ha pos pins s σ H _ I h) fun us s1 ⟨vs, H1, I1, r1, q1⟩ => ?_) hs hpl))
  obtain ⟨l, m, xs, ys, e, hq, hq', hxy, hn, q⟩ := q1
  subst e
  obtain ⟨v, v', rfl, ru, ru'⟩ := vals2 r1
  cases ru
  cases ru'
  obtain ⟨its, rv, pt, hz⟩ := I1.seqX hq
  obtain ⟨jts, rv', pt', hz'⟩ := I1.seqX hq'
  refine call_zipg (tX t) (tX u) (gives_x pt) (gives_x (cX_push pt' _)) fun h' c1 c2 c3 c4 c5 c7 => ?_
  have I2 := I1.kept (h' := h') (t' := s1.toks) c7
  refine Calls.spliced_nil ?_
  refine call_list_zip (t := t) (u := u) (a := l) (b := m) (xs := xs) (ys := ys) (I.ok.hd hc) (zip_apart _ _ _ (cX_lt pt) (cX_lt pt')) I2 (fun c hc' => ?_) c1 c2 ⟨_, _, c3⟩ (jX_new c4) (jX_new c5) hq hq' hxy hn fun s' H' ts I' q1 q2 q3 q4 q5 => ?_
  · have hle : s1.heap.objs.size ≤ c := by
      simp only [List.mem_cons, List.not_mem_nil, or_false] at hc'
      rcases hc' with rfl | rfl | rfl | rfl | rfl <;> omega
    exact I1.fpOk hle (I1.hok.fresh hle)
  · exact ⟨.ref _, H', I', rfl, q _ ts H' q1 q2 q3 q4 q5⟩
end L2
namespace L2
open PySem PySem.Spec PyProof.Rows

def Itv (K : PySem.W.Frag) (n : Nat) (a : Addr) : It :=
  ⟨fun i H => ∃ xs x, SqL K H a xs ∧ xs.length = n ∧ i < n ∧ xs[n - 1 - i]? = some x, fun i H v H' => H' = H ∧ ∀ xs, SqL K H a xs → xs[n - 1 - i]? = some v, fun i _ => n ≤ i⟩
theorem turn_rev {P : Program} {w : World} {K : PySem.W.Frag} {tg : Expr} (n : Nat) (a it : Addr) : Turn P w K tg (Itv K n a) [it] it (fun i h => i ≤ n ∧ h.IsRevIter it a ((n : Int) - 1 - i)) where
  mem := by simp
  obj := fun i h st b hb => by
    have e : b = it := by simpa using hb
    subst e
    obtain ⟨_, o, e, c, d⟩ := st
    exact ⟨o, e, fun v z => by rw [d] at z; cases z⟩
  keep := fun i h h' st k => ⟨st.1, st.2.at fun o e => k it (by simp) o e⟩
  item := by
    intro X hP hw hK hc i pins s σ H E I hf st hg
    subst hP hw hK
    obtain ⟨xs, x, hq, hn, hi, hx⟩ := hg
    obtain ⟨its, rv, p, hz⟩ := I.list hq
    obtain ⟨u, hu, ru⟩ := rv.get hx
    obtain ⟨f0, f1, f2, f3, f4, f5⟩ := hf it (by simp)
    have st' : s.heap.IsRevIter it a ((n - 1 - i : Nat) : Int) := by
      have e : ((n - 1 - i : Nat) : Int) = (n : Int) - 1 - i := by omega
      rw [e]
      exact st.2
    refine wpAny_pyNext_rev_item st' p.isList (x := u) (by simpa using hu) fun h' st2 sb => ?_
    have I1 : Inv X pins σ H { s with heap := h' } := I.turned (t' := s.toks) (fun b o hb e => (sb.2 b hb).trans e) f0 f1 f3 f4 f5
    obtain ⟨o, e, c, d⟩ := id st2
    refine ⟨u, rfl, go_of (s := { s with heap := h' }) e c d (by decide) ⟨x, H, I1, ru, ⟨rfl, fun ys hy => by rw [I.list_inj hy hq]; exact hx⟩, ⟨by omega, ?_⟩, fun b hb => (hf b hb).1⟩⟩
    have e2 : (n : Int) - 1 - ((i + 1 : Nat) : Int) = ((n - 1 - i : Nat) : Int) - 1 := by omega
    rw [e2]
    exact st2
  done := by
    intro X hP hw hK hc i pins s σ H E I hf st hg
    subst hP hw hK
    obtain ⟨f0, f1, f2, f3, f4, f5⟩ := hf it (by simp)
    have hi : n ≤ i := hg
    have st' : s.heap.IsRevIter it a (-1) := by
      have e : (-1 : Int) = (n : Int) - 1 - i := by have := st.1; omega
      rw [e]
      exact st.2
    exact wpAny_pyNext_rev_end (I.ok.hd hc) st' fun h' eb => ⟨rfl, I.turned (t' := s.toks) (fun b o hb e => eb b o hb e) f0 f1 f3 f4 f5⟩
  self := fun _ _ _ _ _ st h => wpAny_pyIter_revIter st.2 h
def iRev (K : PySem.W.Frag) (ta : TA) : TI := fun σ H R => ta σ H fun vs H1 => ∃ a xs, vs = [.ref a] ∧ SqL K H1 a xs ∧ R (Itv K xs.length a) H1
theorem pi_rev {X : Cx} {tg a : Expr} {ta : TA} {p pos : Pos} (hg : Gl X "reversed") (hm : X.mg "reversed" = none) (ha : PA X [a] ta) (hs : starEach [a] X.env = (false, eval a X.env) :: starEach [] X.env := by rfl) (hpl : (backTo pos (starEach [] X.env)).any (·.1) = false := by rfl) :
    PI X tg (.Call (.Name "reversed" p) [a] [] pos) (iRev X.K ta) := by
  intro pins s σ H R I h
  refine Call_ (ld_blt I hg hm boot_reversed (PyProof.Rows.callWith_type1 (thn (ha pos pins s σ H _ I h) fun us s1 ⟨vs, H1, I1, r1, q1⟩ => ?_) hs hpl))
  obtain ⟨l, xs, e, hq, q⟩ := q1
  subst e
  obtain ⟨u, rfl, ru⟩ := vals1 r1
  cases ru
  obtain ⟨its, rv, pt, hz⟩ := I1.list hq
  have hl := rv.length
  refine call_reversed_list pt.isList ?_
  have g : ∀ o : Obj, (s1.heap.push o).get? s1.heap.objs.size = some o ∨ True := fun _ => .inr trivial
  clear g
  have hit : (s1.heap.push (revObj l ((its.toArray.size : Int) - 1))).IsRevIter s1.heap.objs.size l ((xs.length : Int) - 1 - (0 : Nat)) := by
    refine ⟨_, Heap.get?_push_size _ rfl, rfl, ?_⟩
    show Data.fields #[.ref l, rawInt ((its.toArray.size : Int) - 1)] = _
    rw [List.size_toArray, ← hl]
    simp
  refine wpAny_pyIter_revIter hit ?_
  refine ⟨s1.heap.objs.size, [s1.heap.objs.size], _, _, H1, rfl, I1.kept (t' := s1.toks) fun b o e => Heap.get?_push_of_some _ e, turn_rev xs.length l _, ⟨Nat.zero_le _, hit⟩, fun b hb => ?_, q⟩
  have e : b = s1.heap.objs.size := by simpa using hb
  subst e
  exact I1.fpOk (Nat.le_refl _) (I1.hok.fresh (Nat.le_refl _))
theorem for_rev {K : PySem.W.Frag} {a : Addr} {xs : List V} {g : TG} {tb : TS} {D : Ends} {σ : St} {H : Hp} (Pv : Nat → St → Hp → Prop) (h0 : Pv 0 σ H) (hl : ∀ i σ H, i ≤ xs.length → Pv i σ H → SqL K H a xs)
    (hs : ∀ i x σ H, xs[xs.length - 1 - i]? = some x → i < xs.length → Pv i σ H → g x σ H fun σ2 H2 => tb { D with nx := Pv (i + 1), ct := Pv (i + 1), bk := D.nx } σ2 H2) (hd : ∀ σ H, Pv xs.length σ H → D.nx σ H) :
    ∃ W : Nat → Nat → St → Hp → Prop, (∃ m, W 0 m σ H) ∧ ∀ i m σ H, W i m σ H →
      ((Itv K xs.length a).stop i H ∧ D.nx σ H) ∨ ((Itv K xs.length a).go i H ∧ ∃ N : St → Hp → Prop, (∀ σ' H', N σ' H' → ∃ m', m' < m ∧ W (i + 1) m' σ' H') ∧ ∀ x H', (Itv K xs.length a).yld i H x H' → g x σ H' fun σ2 H2 => tb { D with nx := N, ct := N, bk := D.nx } σ2 H2) := by
  refine ⟨fun i m σ H => m = xs.length - i ∧ i ≤ xs.length ∧ Pv i σ H, ⟨xs.length, by simp, Nat.zero_le _, h0⟩, ?_⟩
  rintro i m σ H ⟨rfl, hi, p⟩
  have q := hl i σ H hi p
  by_cases hlt : i < xs.length
  · obtain ⟨x, hx⟩ : ∃ x, xs[xs.length - 1 - i]? = some x := ⟨xs[xs.length - 1 - i]'(by omega), by simp⟩
    refine .inr ⟨⟨xs, x, q, rfl, hlt, hx⟩, Pv (i + 1), fun σ' H' p' => ⟨xs.length - (i + 1), by omega, rfl, hlt, p'⟩, fun y H' z => ?_⟩
    obtain ⟨e1, e2⟩ := z
    subst e1
    exact hs i y σ _ (e2 xs q) hlt p
  · have e : i = xs.length := by omega
    subst e
    exact .inl ⟨Nat.le_refl _, hd σ H p⟩
end L2
namespace L2
open PySem PySem.Spec PyProof.Rows

theorem noFill_tuple_mul : fillsNumberSlot (.type "tuple") "mul" = pure false :=
  PySem.fillsNumberSlot_seq (id := "tuple.__mul__") (r := some (.builtin "tuple.__rmul__")) F.slot_tuple_mul.lookup (by decide +kernel) F.slot_tuple_rmul.lookup (by decide +kernel)
theorem repeat_tuple : seqRepeat? (.type "tuple") = pure (some (.builtin "tuple.__mul__")) := by
  unfold seqRepeat?
  rw [PySem.seqSlot_of (T := "tuple") (name := "__mul__") (id := "tuple.__mul__") F.slot_tuple_mul.lookup (by decide +kernel), PySem.seqSlot_of (T := "tuple") (name := "__rmul__") (id := "tuple.__rmul__") F.slot_tuple_rmul.lookup (by decide +kernel)]
  rfl
theorem rmul_int_tup (a : Int) (t : Tok) (l : Addr) (dc : Option Addr) (items : Array Value) (n : Nat) (sl : Array (Option Value)) :
    Meets (Builtin.«int.__rmul__» ⟨[.int a t, .ref l], []⟩) (fun _ R s => s.heap.get? l = some { cls := .type "tuple", dict := dc, data := .seq items n, slots := sl } ∧ R (.ok (.ret Value.notImplemented)) s) :=
  .of_wp fun prog w A R s h => by obtain ⟨hp, g, d, tk, os⟩ := s; obtain ⟨hl, h⟩ := h; wp_walk; exact ⟨_, rfl, h⟩
theorem mul_tup (k : Int) (u : Tok) (l : Addr) (dc : Option Addr) (items : Array Value) (n : Nat) (sl : Array (Option Value)) (h0 : 0 ≤ k) (h1 : k ≤ 1000) (hi : items.isEmpty = false) (hz : items.size ≤ 1000) (hs : (List.foldl (fun x1 x2 => x1 ++ x2) #[] (List.replicate k.toNat items)).size ≤ sizeLine) :
    Meets (Builtin.«tuple.__mul__» ⟨[.ref l, .int k u], []⟩) (fun _ R s => s.heap.get? l = some { cls := .type "tuple", dict := dc, data := .seq items n, slots := sl } ∧ (k = 1 → R (.ok (.ret (.ref l))) s) ∧
      (k ≠ 1 → R (.ok (.ret (.ref s.heap.objs.size))) { s with heap := s.heap.push { cls := .type "tuple", data := .seq (List.foldl (fun x1 x2 => x1 ++ x2) #[] (List.replicate k.toNat items)) } })) :=
  .of_wp fun prog w A R s h => by
    obtain ⟨hp, g, d, tk, os⟩ := s
    obtain ⟨hl, ha, hb⟩ := h
    have e1 : (decide (k < -(2 ^ 63)) || decide (k ≥ 2 ^ 63)) = false := by
      rw [decide_eq_false (by omega), decide_eq_false (by omega)]
      rfl
    wp_walk
    rw [e1]
    simp only [Bool.false_eq_true, if_false]
    wp_walk
    rw [hi, Bool.false_or]
    by_cases h2 : k = 1
    · subst h2
      simp only [beq_self_eq_true, if_true]
      wp_walk
      exact ⟨_, rfl, ha rfl⟩
    · have e2 : (k == 1) = false := by simpa using h2
      rw [e2]
      simp only [Bool.false_eq_true, if_false, Bool.or_false]
      by_cases h3 : k ≤ 0
      · have h4 : k = 0 := by omega
        subst h4
        simp only [Int.le_refl, decide_true, if_true]
        wp_walk
        exact ⟨_, rfl, hb (by decide)⟩
      · rw [decide_eq_false h3]
        simp only [Bool.false_eq_true, if_false]
        have m1 : (items.size : Int) * k ≤ 1000 * 1000 := Int.mul_le_mul (by omega) h1 h0 (by decide)
        rw [if_neg (show ¬ (items.size : Int) * k > (2 ^ 63 - 1) / 8 by omega)]
        have e3 : Builtin.Tuple.tupleTooMany ((items.size : Int) * k) = false := by
          unfold Builtin.Tuple.tupleTooMany
          refine decide_eq_false ?_
          have : (1000 * 1000 : Int) ≤ (sizeLine : Int) := by decide
          omega
        rw [e3]
        simp only [Bool.false_eq_true, if_false]
        show wpAny _ _ (Builtin.Tuple.tupleExact _ >>= fun v => ret v) _ _ _
        exact wpAny_bind (wpAny_newObj_type (wpAny_pure ⟨_, rfl, hb h2⟩) hs)

def rRepT : R2 := fun x y H Q => ∃ t k xs, x = .ref t ∧ y = .int k ∧ H t = some (.tup xs) ∧ 0 ≤ k ∧ k ≤ 1000 ∧ xs ≠ [] ∧ xs.length ≤ 1000 ∧ ∀ p H', Same H H' → H' p = some (.tup (List.replicate k.toNat xs).flatten) → Q (.ref p) H'
theorem op_repT {X : Cx} : OpR X (binaryOp .Mult) rRepT := by
  intro pins s σ H x y v u Q I rx ry h
  obtain ⟨t, k, xs, rfl, rfl, hH, h0, h1, hne, hz, q⟩ := h
  cases rx
  obtain ⟨tk, rfl⟩ := ry
  obtain ⟨zz, its, r, o, ho, hc, n, hd⟩ : xs.length ≤ sizeLine ∧ ∃ its : List Value, Vals xs its ∧ IsTup s.heap t its.toArray := I.hok t _ hH
  obtain ⟨oc, od, odt, osl⟩ := o
  cases hc
  cases hd
  have hl := r.length
  have hnew : List.foldl (fun x1 x2 => x1 ++ x2) #[] (List.replicate k.toNat its.toArray) = (List.replicate k.toNat its).flatten.toArray := by
    have := foldl_rep its k.toNat []
    rw [List.nil_append] at this
    exact this
  have hi : its.toArray.isEmpty = false := by
    cases its with
    | nil =>
      rw [List.length_nil] at hl
      exact absurd (List.length_eq_zero_iff.mp hl) hne
    | cons a b => rfl
  have hk : k.toNat ≤ 1000 := by omega
  have hmm : k.toNat * its.length ≤ 1000 * 1000 := Nat.mul_le_mul hk (by omega)
  have hsz : (List.replicate k.toNat its).flatten.length ≤ sizeLine := by
    rw [len_rep]
    exact Nat.le_trans hmm (by decide)
  have T : s.TypeIs (.ref t) "tuple" := ⟨_, ho, rfl⟩
  refine wpAny_binaryOp_repeat_ref (T := "tuple") (U := "int") (by decide) T (fun s' => typeIs_int s' k tk) noFill_tuple_mul F.fills_int_mul F.slot_int_rmul repeat_tuple F.slot_int_index.lookup
    (call_meets F.slot_int_rmul (typeIs_int s k tk) F.entry_int_rmul (F.args_int_rmul_2 _ _) (rmul_int_tup k tk t od its.toArray n osl)
      ⟨ho, rfl, T, call_meets F.slot_tuple_mul T F.entry_tuple_mul (F.args_tuple_mul_2 _ _) (mul_tup k tk t od its.toArray n osl h0 h1 hi (by rw [List.size_toArray]; omega) (by rw [hnew, List.size_toArray]; exact hsz)) ⟨ho, fun e => ?_, fun e => ?_⟩⟩)
  · subst e
    refine ⟨.ref t, H, I, rfl, q t H (Same.refl H) ?_⟩
    rw [hH]
    simp
  · rw [hnew]
    refine ⟨.ref s.heap.objs.size, _, I.laid (t' := s.toks) (o := .tup (List.replicate k.toNat xs).flatten) (fun b o e => Heap.get?_push_of_some _ e) (Nat.le_refl _) ⟨?_, _, r.rep k.toNat, ⟨_, Heap.get?_push_size _ rfl, rfl, _, rfl⟩⟩, rfl, q _ _ ((Same.refl H).upd_free (I.hok.fresh (Nat.le_refl _))) upd_same⟩
    rw [len_rep, hl, ← len_rep its]
    exact hsz
end L2
namespace K23
open PySem L2 K20 K21 K60

def Eqk (rs : Rms) (many : Int) (k : Nat) (x y : Int) : Prop := ∀ run : List Int, run.length ≤ k → Lts many run → gd rs (walkM rs x run) = gd rs (walkM rs y run)
def Bi (r1 r2 : Rms) (many x y : Int) : Prop := ∀ run : List Int, Lts many run → gd r1 (walkM r1 x run) = gd r2 (walkM r2 y run)
theorem eqk_zero {rs : Rms} {many x y : Int} : Eqk rs many 0 x y ↔ gd rs x = gd rs y := by
  constructor
  · intro h
    exact h [] (Nat.le_refl _) Lts.nil
  · intro h run hl _
    have : run = [] := List.length_eq_zero_iff.mp (by omega)
    subst this
    exact h
theorem eqk_succ {rs : Rms} {many x y : Int} {k : Nat} : Eqk rs many (k + 1) x y ↔ Eqk rs many k x y ∧ ∀ l, 0 ≤ l → l < many → Eqk rs many k (nextOf rs x l) (nextOf rs y l) := by
  constructor
  · intro h
    exact ⟨fun run hl hr => h run (by omega) hr, fun l l0 l1 run hl hr => h (l :: run) (by simp; omega) (hr.cons l0 l1)⟩
  · rintro ⟨h1, h2⟩ run hl hr
    cases run with
    | nil => exact h1 [] (Nat.zero_le _) Lts.nil
    | cons l run => exact h2 l hr.head.1 hr.head.2 run (by simp at hl; omega) hr.tail
def kn (ns : List Int) (t : Int) : Int := ns.getD t.toNat 0
def nx (rs : Rms) (x : Int) : List Int := (rs.getD x.toNat (false, [])).2
theorem nextOf_nx (rs : Rms) (x l : Int) : nextOf rs x l = (nx rs x).getD l.toNat 0 := rfl
def mark (rs : Rms) (ns : List Int) (x : Int) : Int × List Int := (kn ns x, (nx rs x).map (kn ns))
def Inr (rs : Rms) (x : Int) : Prop := 0 ≤ x ∧ x < (rs.length : Int)
structure Lev (rs : Rms) (many : Int) (k : Nat) (ns : List Int) : Prop where
  len : ns.length = rs.length
  iff : ∀ x y, Inr rs x → Inr rs y → (kn ns x = kn ns y ↔ Eqk rs many k x y)
structure Fine (rs : Rms) (ns ms : List Int) : Prop where
  len : ms.length = rs.length
  iff : ∀ x y, Inr rs x → Inr rs y → (kn ms x = kn ms y ↔ mark rs ns x = mark rs ns y)
theorem nx_len {many : Int} {rs : Rms} (G : Good many rs) {x : Int} (h : Inr rs x) : ((nx rs x).length : Int) = many := by
  obtain ⟨r, er⟩ := some_at rs x h.1 h.2
  unfold nx
  rw [getD_of er]
  exact (G.row r (List.mem_of_getElem? er)).1
theorem nx_in {many : Int} {rs : Rms} (G : Good many rs) {x t : Int} (h : Inr rs x) (ht : t ∈ nx rs x) : Inr rs t := by
  obtain ⟨r, er⟩ := some_at rs x h.1 h.2
  unfold nx at ht
  rw [getD_of er] at ht
  exact (G.row r (List.mem_of_getElem? er)).2 t ht
theorem map_eq_of {α : Type} (f : Int → α) : ∀ (a b : List Int), a.length = b.length → (a.map f = b.map f ↔ ∀ i : Nat, i < a.length → f (a.getD i 0) = f (b.getD i 0))
  | [], [], _ => ⟨fun _ i hi => absurd hi (Nat.not_lt_zero _), fun _ => rfl⟩
  | [], _ :: _, h => by simp at h
  | _ :: _, [], h => by simp at h
  | x :: a, y :: b, h => by
    have ih := map_eq_of f a b (by simpa using h)
    constructor
    · intro e i hi
      rw [List.map_cons, List.map_cons] at e
      injection e with e1 e2
      cases i with
      | zero => exact e1
      | succ i => exact (ih.mp e2) i (by simpa using hi)
    · intro e
      rw [List.map_cons, List.map_cons]
      have e1 := e 0 (by simp)
      have e2 := ih.mpr fun i hi => e (i + 1) (by simpa using hi)
      rw [e2]
      have : f x = f y := e1
      rw [this]
theorem Fine.lev {many : Int} {rs : Rms} {k : Nat} {ns ms : List Int} (G : Good many rs) (L : Lev rs many k ns) (F : Fine rs ns ms) : Lev rs many (k + 1) ms := by
  refine ⟨F.len, fun x y hx hy => ?_⟩
  rw [F.iff x y hx hy, eqk_succ]
  have lx := nx_len G hx
  have ly := nx_len G hy
  unfold mark
  rw [Prod.mk.injEq, L.iff x y hx hy, map_eq_of (kn ns) _ _ (by omega)]
  refine and_congr_right fun _ => ?_
  constructor
  · intro h l l0 l1
    have hx' := next_in G hx.1 hx.2 l0 l1
    have hy' := next_in G hy.1 hy.2 l0 l1
    rw [← L.iff _ _ hx' hy', nextOf_nx, nextOf_nx]
    exact h l.toNat (by omega)
  · intro h i hi
    have q := h (i : Int) (by omega) (by omega)
    have hx' := next_in G hx.1 hx.2 (l := (i : Int)) (by omega) (by omega)
    have hy' := next_in G hy.1 hy.2 (l := (i : Int)) (by omega) (by omega)
    rw [← L.iff _ _ hx' hy', nextOf_nx, nextOf_nx] at q
    exact q

theorem sub_len : ∀ (b c : List Int), b.Nodup → (∀ x ∈ b, x ∈ c) → b.length ≤ c.length
  | [], c, _, _ => Nat.zero_le _
  | x :: b, c, nd, h => by
    obtain ⟨h1, h2⟩ := List.nodup_cons.mp nd
    have hx := h x List.mem_cons_self
    have ih := sub_len b (c.erase x) h2 fun y hy => by
      have ne : y ≠ x := fun e => h1 (e ▸ hy)
      exact (List.mem_erase_of_ne ne).mpr (h y (List.mem_cons_of_mem _ hy))
    rw [List.length_erase_of_mem hx] at ih
    have : 0 < c.length := List.length_pos_of_mem hx
    simp only [List.length_cons]
    omega
theorem many_spec (ns : List Int) : ∃ l : List Int, l.Nodup ∧ (∀ k, k ∈ l ↔ k ∈ ns) ∧ manyI ns = l.length := by
  refine ⟨PyProof.Rows.firstMet (fun i => ns.getD i 0) ns.length, ?_, fun k => ?_, rfl⟩
  · unfold PyProof.Rows.firstMet
    exact first_nodup _ _ List.nodup_nil
  · rw [← inI_iff ns k]
    unfold inI
    rw [List.any_eq_true]
    exact ⟨fun h => ⟨k, h, by simp⟩, fun ⟨x, hx, e⟩ => by rw [beq_iff_eq] at e; rwa [← e]⟩
theorem many_le (ns : List Int) : manyI ns ≤ ns.length := by
  obtain ⟨l, nd, mem, e⟩ := many_spec ns
  rw [e]
  exact sub_len l ns nd fun x hx => (mem x).mp hx
theorem mem_kn {ns : List Int} {v : Int} (h : v ∈ ns) : ∃ t : Int, 0 ≤ t ∧ t < (ns.length : Int) ∧ kn ns t = v := by
  obtain ⟨i, hi, e⟩ := List.getElem_of_mem h
  exact ⟨i, by omega, by omega, by unfold kn; rw [Int.toNat_natCast]; simp [List.getD, hi, e]⟩
theorem kn_mem {ns : List Int} {t : Int} (h0 : 0 ≤ t) (h1 : t < (ns.length : Int)) : kn ns t ∈ ns := by
  obtain ⟨v, e⟩ := some_at ns t h0 h1
  unfold kn
  rw [getD_of e]
  exact List.mem_of_getElem? e
theorem stays {many : Int} {rs : Rms} {k : Nat} {ns ms : List Int} (L : Lev rs many k ns) (L' : Lev rs many (k + 1) ms) (h : manyI ms ≤ manyI ns) {x y : Int} (hx : Inr rs x) (hy : Inr rs y) (e : Eqk rs many k x y) : Eqk rs many (k + 1) x y := by
  refine Classical.byContradiction fun hn => ?_
  have e1 : kn ns x = kn ns y := (L.iff x y hx hy).mpr e
  have e2 : ¬ kn ms x = kn ms y := fun z => hn ((L'.iff x y hx hy).mp z)
  obtain ⟨la, na, ma, ea⟩ := many_spec ms
  obtain ⟨lb, nb, mb, eb⟩ := many_spec ns
  have up : ∀ {u v : Int}, Inr rs u → Inr rs v → kn ms u = kn ms v → kn ns u = kn ns v := fun {u v} hu hv z => (L.iff u v hu hv).mpr (eqk_succ.mp ((L'.iff u v hu hv).mp z)).1
  have inm : ∀ {u : Int}, Inr rs u → kn ms u ∈ ms := fun {u} hu => kn_mem hu.1 (by rw [L'.len]; exact hu.2)
  -- a room for each of the finer kinds
  have pick : ∀ v, ∃ t : Int, v ∈ ms → Inr rs t ∧ kn ms t = v := fun v => by
    by_cases hv : v ∈ ms
    · obtain ⟨t, t0, t1, et⟩ := mem_kn hv
      exact ⟨t, fun _ => ⟨⟨t0, by rw [← L'.len]; exact t1⟩, et⟩⟩
    · exact ⟨0, fun z => absurd z hv⟩
  let f : Int → Int := fun v => kn ns (Classical.choose (pick v))
  have ff : ∀ {u : Int}, Inr rs u → f (kn ms u) = kn ns u := fun {u} hu => by
    have q := Classical.choose_spec (pick (kn ms u)) (inm hu)
    exact up q.1 hu q.2
  have hlen : lb.length ≤ ((la.erase (kn ms x)).map f).length := by
    refine sub_len _ _ nb fun b hb => ?_
    obtain ⟨t, t0, t1, et⟩ := mem_kn ((mb b).mp hb)
    have ht : Inr rs t := ⟨t0, by rw [← L.len]; exact t1⟩
    by_cases hc : kn ms t = kn ms x
    · refine List.mem_map.mpr ⟨kn ms y, (List.mem_erase_of_ne (Ne.symm e2)).mpr ((ma _).mpr (inm hy)), ?_⟩
      rw [ff hy, ← e1, ← et]
      exact (up ht hx hc).symm
    · refine List.mem_map.mpr ⟨kn ms t, (List.mem_erase_of_ne hc).mpr ((ma _).mpr (inm ht)), ?_⟩
      rw [ff ht, et]
  have hxm : kn ms x ∈ la := (ma _).mpr (inm hx)
  rw [List.length_map, List.length_erase_of_mem hxm] at hlen
  have : 0 < la.length := List.length_pos_of_mem hxm
  omega

structure Cls (rs : Rms) (many : Int) (ns : List Int) : Prop where
  len : ns.length = rs.length
  iff : ∀ x y, Inr rs x → Inr rs y → (kn ns x = kn ns y ↔ Bi rs rs many x y)
theorem Lev.cls {many : Int} {rs : Rms} {k : Nat} {ns : List Int} (G : Good many rs) (L : Lev rs many k ns) (st : ∀ x y, Inr rs x → Inr rs y → Eqk rs many k x y → Eqk rs many (k + 1) x y) : Cls rs many ns := by
  refine ⟨L.len, fun x y hx hy => ?_⟩
  rw [L.iff x y hx hy]
  constructor
  · intro h run hr
    induction run generalizing x y with
    | nil => exact h [] (Nat.zero_le _) Lts.nil
    | cons l run ih =>
      have q := (eqk_succ.mp (st x y hx hy h)).2 l hr.head.1 hr.head.2
      exact ih _ _ (next_in G hx.1 hx.2 hr.head.1 hr.head.2) (next_in G hy.1 hy.2 hr.head.1 hr.head.2) q hr.tail
  · intro h run _ hr
    exact h run hr
theorem Bi.next {r1 r2 : Rms} {many x y l : Int} (h : Bi r1 r2 many x y) (l0 : 0 ≤ l) (l1 : l < many) : Bi r1 r2 many (nextOf r1 x l) (nextOf r2 y l) := fun run hr => h (l :: run) (hr.cons l0 l1)
theorem Bi.symm {r1 r2 : Rms} {many x y : Int} (h : Bi r1 r2 many x y) : Bi r2 r1 many y x := fun run hr => (h run hr).symm
theorem Bi.trans {r1 r2 r3 : Rms} {many x y z : Int} (h : Bi r1 r2 many x y) (h' : Bi r2 r3 many y z) : Bi r1 r3 many x z := fun run hr => (h run hr).trans (h' run hr)

def cl (ns : List Int) (ch : List Int) : List Int := ch.map (kn ns)
def ix (ns : List Int) (ch : List Int) (t : Int) : Int := ((cl ns ch).idxOf (kn ns t) : Int)
def minM (rs : Rms) (ns ch : List Int) : Rms := ch.map fun c => (gd rs c, (nx rs c).map (ix ns ch))

def stepT (n : Option Nat) (t : Int) : Option Nat := n.bind fun n => if t < (n : Int) then some n else if t = (n : Int) then some (n + 1) else none
def rowN (n : Option Nat) (r : List Int) : Option Nat := r.foldl stepT n
def rowsN (rows : List (List Int)) : Option Nat := rows.foldl rowN (some 1)
theorem rowN_snoc (n : Option Nat) (r : List Int) (t : Int) : rowN n (r ++ [t]) = stepT (rowN n r) t := by unfold rowN; rw [List.foldl_append]; rfl
theorem rowsN_snoc (rows : List (List Int)) (r : List Int) : rowsN (rows ++ [r]) = rowN (rowsN rows) r := by unfold rowsN; rw [List.foldl_append]; rfl
theorem ix_app {ns ch : List Int} {t x : Int} (h : kn ns t ∈ cl ns ch) : ix ns (ch ++ [x]) t = ix ns ch t := by
  unfold ix cl at *
  rw [List.map_append, List.idxOf_append, if_pos h]
theorem ix_lt {ns ch : List Int} {t : Int} (h : kn ns t ∈ cl ns ch) : ix ns ch t < (ch.length : Int) := by
  unfold ix
  have := List.idxOf_lt_length_of_mem h
  unfold cl at *
  rw [List.length_map] at this
  omega
theorem ix_at {ns ch : List Int} {t : Int} (h : kn ns t ∈ cl ns ch) : ∃ c, ch[(ix ns ch t).toNat]? = some c ∧ kn ns c = kn ns t := by
  have q := List.idxOf_lt_length_of_mem h
  have hl : (cl ns ch).idxOf (kn ns t) < ch.length := by unfold cl at q ⊢; rwa [List.length_map] at q
  refine ⟨ch[(cl ns ch).idxOf (kn ns t)], ?_, ?_⟩
  · unfold ix
    rw [Int.toNat_natCast]
    simp [hl]
  · have e : (cl ns ch)[(cl ns ch).idxOf (kn ns t)]? = some (kn ns t) := by rw [List.getElem?_eq_getElem q, List.getElem_idxOf q]
    generalize (cl ns ch).idxOf (kn ns t) = k at e hl ⊢
    unfold cl at e
    rw [List.getElem?_map, List.getElem?_eq_getElem hl] at e
    exact Option.some.inj e
theorem ix_new {ns ch : List Int} {x : Int} (h : kn ns x ∉ cl ns ch) : ix ns (ch ++ [x]) x = (ch.length : Int) := by
  unfold ix cl at *
  rw [List.map_append, List.idxOf_append, if_neg h, List.length_map]
  simp
structure LB (rs : Rms) (many : Int) (ns ch : List Int) (d : Nat) : Prop where
  hd : ch[0]? = some 0
  nd : (cl ns ch).Nodup
  ok : ∀ c ∈ ch, Inr rs c
  dl : d ≤ ch.length
  cov : ∀ (i : Nat) (c : Int), i < d → ch[i]? = some c → ∀ t ∈ nx rs c, kn ns t ∈ cl ns ch
  ord : rowsN ((ch.take d).map fun c => (nx rs c).map (ix ns ch)) = some ch.length
  pre : ∀ i, i < d → ∃ n, rowsN ((ch.take i).map fun c => (nx rs c).map (ix ns ch)) = some n ∧ i < n
structure LV (rs : Rms) (many : Int) (ns ch : List Int) (d : Nat) (x0 : Int) (j : Nat) : Prop where
  pl : ch[d]? = some x0
  hd : ch[0]? = some 0
  nd : (cl ns ch).Nodup
  ok : ∀ c ∈ ch, Inr rs c
  cov : ∀ (i : Nat) (c : Int), i < d → ch[i]? = some c → ∀ t ∈ nx rs c, kn ns t ∈ cl ns ch
  cov2 : ∀ t ∈ (nx rs x0).take j, kn ns t ∈ cl ns ch
  ord : rowN (rowsN ((ch.take d).map fun c => (nx rs c).map (ix ns ch))) (((nx rs x0).take j).map (ix ns ch)) = some ch.length
  pre : ∀ i, i ≤ d → ∃ n, rowsN ((ch.take i).map fun c => (nx rs c).map (ix ns ch)) = some n ∧ i < n
theorem LB.start {rs : Rms} {many : Int} {ns ch : List Int} {d : Nat} {x0 : Int} (B : LB rs many ns ch d) (h : ch[d]? = some x0) : LV rs many ns ch d x0 0 := by
  have hd : d < ch.length := (List.getElem?_eq_some_iff.mp h).1
  refine ⟨h, B.hd, B.nd, B.ok, B.cov, fun t ht => by simp at ht, ?_, fun i hi => ?_⟩
  · exact B.ord
  · by_cases e : i = d
    · subst e
      exact ⟨_, B.ord, hd⟩
    · exact B.pre i (by omega)
theorem LV.done {rs : Rms} {many : Int} {ns ch : List Int} {d : Nat} {x0 : Int} {j : Nat} (V : LV rs many ns ch d x0 j) (h : (nx rs x0).length ≤ j) : LB rs many ns ch (d + 1) := by
  have hd : d < ch.length := (List.getElem?_eq_some_iff.mp V.pl).1
  have c2 := V.cov2
  have o2 := V.ord
  rw [List.take_of_length_le h] at c2 o2
  refine ⟨V.hd, V.nd, V.ok, hd, fun i c hi hc => ?_, ?_, fun i hi => V.pre i (by omega)⟩
  · by_cases e : i = d
    · subst e
      rw [V.pl] at hc
      cases hc
      exact c2
    · exact V.cov i c (by omega) hc
  · rw [List.take_add_one, V.pl, List.map_append, Option.toList_some, List.map_singleton, rowsN_snoc]
    exact o2
theorem LV.old {rs : Rms} {many : Int} {ns ch : List Int} {d : Nat} {x0 t : Int} {j : Nat} (V : LV rs many ns ch d x0 j) (h : (nx rs x0)[j]? = some t) (m : kn ns t ∈ cl ns ch) : LV rs many ns ch d x0 (j + 1) := by
  refine ⟨V.pl, V.hd, V.nd, V.ok, V.cov, fun u hu => ?_, ?_, V.pre⟩
  · rw [List.take_add_one, h, Option.toList_some, List.mem_append, List.mem_singleton] at hu
    rcases hu with hu | rfl
    · exact V.cov2 u hu
    · exact m
  · rw [List.take_add_one, h, Option.toList_some, List.map_append, List.map_singleton, rowN_snoc, V.ord]
    unfold stepT
    rw [Option.bind_some, if_pos (ix_lt m)]
theorem rows_app {rs : Rms} {ns ch : List Int} {x : Int} {d : Nat} (dl : d ≤ ch.length) (cov : ∀ (i : Nat) (c : Int), i < d → ch[i]? = some c → ∀ t ∈ nx rs c, kn ns t ∈ cl ns ch) :
    (((ch ++ [x]).take d).map fun c => (nx rs c).map (ix ns (ch ++ [x]))) = (ch.take d).map fun c => (nx rs c).map (ix ns ch) := by
  rw [List.take_append_of_le_length dl]
  refine List.map_congr_left fun c hc => List.map_congr_left fun t ht => ix_app ?_
  obtain ⟨i, hi, e⟩ := List.getElem_of_mem hc
  rw [List.length_take] at hi
  rw [List.getElem_take] at e
  exact cov i c (by omega) (by rw [← e]; simp) t ht
theorem LV.new {rs : Rms} {many : Int} {ns ch : List Int} {d : Nat} {x0 t : Int} {j : Nat} (G : Good many rs) (V : LV rs many ns ch d x0 j) (h : (nx rs x0)[j]? = some t) (m : kn ns t ∉ cl ns ch) : LV rs many ns (ch ++ [t]) d x0 (j + 1) := by
  have hd : d < ch.length := (List.getElem?_eq_some_iff.mp V.pl).1
  have lt : ∀ {i : Nat} {e : Int}, ch[i]? = some e → (ch ++ [t])[i]? = some e := fun {i e} h => by
    rw [List.getElem?_append_left (List.getElem?_eq_some_iff.mp h).1]
    exact h
  have mem : ∀ {v : Int}, v ∈ cl ns ch → v ∈ cl ns (ch ++ [t]) := fun {v} hv => by unfold cl at *; rw [List.map_append]; exact List.mem_append_left _ hv
  have x0r := V.ok x0 (List.mem_of_getElem? V.pl)
  have tr := nx_in G x0r (List.mem_of_getElem? h)
  refine ⟨lt V.pl, lt V.hd, ?_, fun c hc => ?_, fun i c hi hc u hu => ?_, fun u hu => ?_, ?_, fun i hi => ?_⟩
  · unfold cl at *
    rw [List.map_append, List.nodup_append]
    refine ⟨V.nd, by simp, fun a ha b hb => ?_⟩
    have : b = kn ns t := by simpa using hb
    subst this
    intro z
    subst z
    exact m ha
  · rcases List.mem_append.mp hc with hc | hc
    · exact V.ok c hc
    · rw [List.mem_singleton] at hc
      subst hc
      exact tr
  · rw [List.getElem?_append_left (by omega)] at hc
    exact mem (V.cov i c hi hc u hu)
  · rw [List.take_add_one, h, Option.toList_some, List.mem_append, List.mem_singleton] at hu
    rcases hu with hu | rfl
    · exact mem (V.cov2 u hu)
    · unfold cl
      rw [List.map_append]
      exact List.mem_append_right _ (by simp)
  · rw [rows_app (by omega) V.cov, List.take_add_one, h, Option.toList_some, List.map_append, List.map_singleton, rowN_snoc, ix_new m]
    have e : ((nx rs x0).take j).map (ix ns (ch ++ [t])) = ((nx rs x0).take j).map (ix ns ch) := List.map_congr_left fun u hu => ix_app (V.cov2 u hu)
    rw [e, V.ord]
    unfold stepT
    rw [Option.bind_some, if_neg (by omega), if_pos rfl, List.length_append]
    rfl
  · rw [rows_app (by omega) fun i' c hi' hc => V.cov i' c (by omega) hc]
    exact V.pre i hi
theorem LB.init {rs : Rms} {many : Int} {ns : List Int} (G : Good many rs) : LB rs many ns [0] 0 := by
  have := G.pos
  refine ⟨rfl, by simp [cl], fun c hc => ?_, by simp, fun i c hi => by omega, rfl, fun i hi => by omega⟩
  rw [List.mem_singleton] at hc
  subst hc
  exact ⟨Int.le_refl 0, by omega⟩
theorem ch_len {rs : Rms} {ns ch : List Int} (nd : (cl ns ch).Nodup) (ok : ∀ c ∈ ch, Inr rs c) : ch.length ≤ rs.length := by
  have n2 : ch.Nodup := by
    unfold cl at nd
    exact List.Pairwise.of_map (kn ns) (fun a b h z => h (by rw [z])) nd
  exact nodup_le rs.length ch n2 fun x hx => ok x hx

section
variable {rs : Rms} {many : Int} {ns ch : List Int}
theorem min_at {i : Nat} {c : Int} (h : ch[i]? = some c) : (minM rs ns ch)[i]? = some (gd rs c, (nx rs c).map (ix ns ch)) := by
  unfold minM
  rw [List.getElem?_map, h]
  rfl
theorem min_good (G : Good many rs) (B : LB rs many ns ch ch.length) : Good many (minM rs ns ch) := by
  have l0 : 0 < ch.length := (List.getElem?_eq_some_iff.mp B.hd).1
  have hl : (minM rs ns ch).length = ch.length := by unfold minM; rw [List.length_map]
  have l1 := ch_len B.nd B.ok
  have gle := G.le
  refine ⟨G.mn, by omega, by omega, fun r hr => ?_⟩
  unfold minM at hr
  obtain ⟨c, hc, e⟩ := List.mem_map.mp hr
  subst e
  have cr := B.ok c hc
  refine ⟨by rw [List.length_map]; exact nx_len G cr, fun n hn => ?_⟩
  obtain ⟨t, ht, e⟩ := List.mem_map.mp hn
  subst e
  obtain ⟨i, hi, ei⟩ := List.getElem_of_mem hc
  have q := B.cov i c hi (by rw [← ei]; simp [hi]) t ht
  rw [hl]
  exact ⟨by unfold ix; omega, ix_lt q⟩
theorem min_bi (G : Good many rs) (C : Cls rs many ns) (B : LB rs many ns ch ch.length) : ∀ (run : List Int) (x : Int) (i : Nat) (c : Int), Inr rs x → ch[i]? = some c → kn ns x = kn ns c → Lts many run → gd rs (walkM rs x run) = gd (minM rs ns ch) (walkM (minM rs ns ch) i run)
  | [], x, i, c, hx, hc, e, _ => by
    have cr := B.ok c (List.mem_of_getElem? hc)
    have q := (C.iff x c hx cr).mp e [] Lts.nil
    show gd rs x = gd (minM rs ns ch) (i : Int)
    unfold gd
    rw [Int.toNat_natCast, getD_of (min_at hc)]
    exact q
  | l :: run, x, i, c, hx, hc, e, hl => by
    have cr := B.ok c (List.mem_of_getElem? hc)
    have l0 := hl.head.1
    have l1 := hl.head.2
    have nxl := nx_len G cr
    have q := ((C.iff x c hx cr).mp e).next l0 l1
    have hx' := next_in G hx.1 hx.2 l0 l1
    have hc' := next_in G cr.1 cr.2 l0 l1
    have e' : kn ns (nextOf rs x l) = kn ns (nextOf rs c l) := (C.iff _ _ hx' hc').mpr q
    have hin : i < ch.length := (List.getElem?_eq_some_iff.mp hc).1
    obtain ⟨t, et⟩ := some_at (nx rs c) l l0 (by omega)
    have ent : nextOf rs c l = t := by rw [nextOf_nx, getD_of et]
    have hm := B.cov i c hin hc t (List.mem_of_getElem? et)
    have en : nextOf (minM rs ns ch) i l = ix ns ch t := by
      rw [nextOf_nx]
      unfold nx
      rw [Int.toNat_natCast, getD_of (min_at hc)]
      exact getD_of (by rw [List.getElem?_map, et]; rfl)
    obtain ⟨c2, g1, g2⟩ := ix_at hm
    have ih := min_bi G C B run (nextOf rs x l) (ix ns ch t).toNat c2 hx' g1 (by rw [e', ent, g2]) hl.tail
    show gd rs (walkM rs (nextOf rs x l) run) = gd (minM rs ns ch) (walkM (minM rs ns ch) (nextOf (minM rs ns ch) i l) run)
    rw [en, ih]
    have : (((ix ns ch t).toNat : Nat) : Int) = ix ns ch t := by unfold ix; omega
    rw [this]
theorem min_whole (G : Good many rs) (C : Cls rs many ns) (B : LB rs many ns ch ch.length) : Bi rs (minM rs ns ch) many 0 0 := fun run hr => by
  have := G.pos
  exact min_bi G C B run 0 0 0 ⟨Int.le_refl 0, by omega⟩ B.hd rfl hr
theorem min_parts (G : Good many rs) (C : Cls rs many ns) (B : LB rs many ns ch ch.length) {i j : Nat} (hi : i < ch.length) (hj : j < ch.length) (h : Bi (minM rs ns ch) (minM rs ns ch) many i j) : i = j := by
  have ci : ch[i]? = some ch[i] := by simp [hi]
  have cj : ch[j]? = some ch[j] := by simp [hj]
  have ri := B.ok _ (List.mem_of_getElem? ci)
  have rj := B.ok _ (List.mem_of_getElem? cj)
  have q1 : Bi rs (minM rs ns ch) many ch[i] i := fun run hr => min_bi G C B run _ i _ ri ci rfl hr
  have q2 : Bi rs (minM rs ns ch) many ch[j] j := fun run hr => min_bi G C B run _ j _ rj cj rfl hr
  have e : kn ns ch[i] = kn ns ch[j] := (C.iff _ _ ri rj).mpr ((q1.trans h).trans q2.symm)
  refine (List.getElem_inj (xs := cl ns ch) (h₀ := by unfold cl; rw [List.length_map]; exact hi) (h₁ := by unfold cl; rw [List.length_map]; exact hj) B.nd).mp ?_
  unfold cl
  rw [List.getElem_map, List.getElem_map]
  exact e
end
end K23
namespace K23
open PySem L2 K20 K21 K60

abbrev Pr := Int × Int
def sc (r1 r2 : Rms) (p : Pr) (l : Int) : Pr := (nextOf r1 p.1 l, nextOf r2 p.2 l)
def PIn (r1 r2 : Rms) (p : Pr) : Prop := Inr r1 p.1 ∧ Inr r2 p.2
structure DP (r1 r2 : Rms) (many : Int) (p0 : Pr) (met wt : List Pr) : Prop where
  hd : p0 ∈ met
  nd : met.Nodup
  ok : ∀ p ∈ met, PIn r1 r2 p
  sub : ∀ p ∈ wt, p ∈ met
  rch : ∀ p ∈ met, ∃ run, Lts many run ∧ walkM r1 p0.1 run = p.1 ∧ walkM r2 p0.2 run = p.2
  cov : ∀ p ∈ met, p ∉ wt → gd r1 p.1 = gd r2 p.2 ∧ ∀ l, 0 ≤ l → l < many → sc r1 r2 p l ∈ met
structure DV (r1 r2 : Rms) (many : Int) (p0 : Pr) (met wt : List Pr) (q : Pr) (j : Nat) : Prop where
  hd : p0 ∈ met
  nd : met.Nodup
  ok : ∀ p ∈ met, PIn r1 r2 p
  sub : ∀ p ∈ wt, p ∈ met
  rch : ∀ p ∈ met, ∃ run, Lts many run ∧ walkM r1 p0.1 run = p.1 ∧ walkM r2 p0.2 run = p.2
  qm : q ∈ met
  qg : gd r1 q.1 = gd r2 q.2
  qc : ∀ l, 0 ≤ l → l < (j : Int) → sc r1 r2 q l ∈ met
  cov : ∀ p ∈ met, p ∉ wt → p ≠ q → gd r1 p.1 = gd r2 p.2 ∧ ∀ l, 0 ≤ l → l < many → sc r1 r2 p l ∈ met
section
variable {r1 r2 : Rms} {many : Int} {p0 : Pr} {met wt : List Pr}
theorem pairs_le (nd : met.Nodup) (ok : ∀ p ∈ met, PIn r1 r2 p) : met.length ≤ r1.length * r2.length := by
  have h := nodup_le (r1.length * r2.length) (met.map fun p => p.1 * (r2.length : Int) + p.2) ?_ ?_
  · rwa [List.length_map] at h
  · unfold List.Nodup
    rw [List.pairwise_map]
    refine List.Pairwise.imp_of_mem (fun {a b} ha hb hne z => hne ?_) nd
    have oa := ok a ha
    have ob := ok b hb
    have hl : (0 : Int) < r2.length := by have := oa.2.1; have := oa.2.2; omega
    have m1 : (a.1 * (r2.length : Int) + a.2) % (r2.length : Int) = a.2 := by rw [Int.add_comm, Int.add_mul_emod_self_right]; exact Int.emod_eq_of_lt oa.2.1 oa.2.2
    have m2 : (b.1 * (r2.length : Int) + b.2) % (r2.length : Int) = b.2 := by rw [Int.add_comm, Int.add_mul_emod_self_right]; exact Int.emod_eq_of_lt ob.2.1 ob.2.2
    have e2 : a.2 = b.2 := by rw [← m1, ← m2, z]
    have e1 : a.1 = b.1 := by
      have : a.1 * (r2.length : Int) = b.1 * (r2.length : Int) := by omega
      exact Int.eq_of_mul_eq_mul_right (by omega) this
    exact Prod.ext e1 e2
  · intro x hx
    obtain ⟨p, hp, e⟩ := List.mem_map.mp hx
    subst e
    have o := ok p hp
    have a0 := o.1.1
    have a1 := o.1.2
    have b0 := o.2.1
    have b1 := o.2.2
    have h1 : 0 ≤ p.1 * (r2.length : Int) := Int.mul_nonneg a0 (by omega)
    have h2 : p.1 * (r2.length : Int) ≤ ((r1.length : Int) - 1) * (r2.length : Int) := Int.mul_le_mul_of_nonneg_right (by omega) (by omega)
    have h3 : ((r1.length : Int) - 1) * (r2.length : Int) = (r1.length : Int) * (r2.length : Int) - (r2.length : Int) := by rw [Int.sub_mul, Int.one_mul]
    rw [Int.natCast_mul]
    exact ⟨by show 0 ≤ p.1 * (r2.length : Int) + p.2; omega, by show p.1 * (r2.length : Int) + p.2 < _; omega⟩
end

def keyP (p : Pr) : List Key := [Sum.inl p.1, Sum.inl p.2]
def metK (met : List Pr) : List (List Key × V) := met.map fun p => (keyP p, V.bl true)
theorem keyP_inj {p q : Pr} (h : keyP p = keyP q) : p = q := by
  unfold keyP at h
  injection h with h1 h2
  injection h2 with h2 _
  exact Prod.ext (Sum.inl.inj h1) (Sum.inl.inj h2)
end K23
namespace K21
open PySem L2 K20
def top (i : Nat) : Stmt := PySem.Challenge.pw_logloom_k26_whole_equal_machines.main.body.getD i (.Pass ⟨0, 0, 0, 0⟩)
abbrev sFk : Stmt := top 1
abbrev sKl : Stmt := top 2
abbrev sPl : Stmt := top 3
abbrev sRp : Stmt := top 4
abbrev sMv : Stmt := top 5
abbrev sMp : Stmt := top 6
abbrev sLs : Stmt := top 8
abbrev sMr : Stmt := top 9
abbrev sJt : Stmt := top 11
abbrev sJo : Stmt := top 12
abbrev sWh : Stmt := top 14
abbrev sCe : Stmt := top 15
abbrev sMa : Stmt := top 16
abbrev sOt : Stmt := top 17
abbrev sRu : Stmt := top 18
abbrev sLaw : Stmt := top 19
abbrev cMod : Int := 2
abbrev cOt : Int := 3
structure Txt (mg : Str → Option Value) : Prop where
  len : mg "len" = none
  range : mg "range" = none
  tuple : mg "tuple" = none
  isin : mg "isinstance" = none
  int : mg "int" = none
  bool : mg "bool" = none
  zip : mg "zip" = none
  set : mg "set" = none
  rev : mg "reversed" = none
  list : mg "list" = none
end K21
namespace K21
open PySem L2 K20
def spMg (K : PySem.W.Frag) : Sp := fun vs H Q _ => ∃ (a : Addr) (ns : List Int) (st most : Int), vs = [.ref a, .int st, .int most] ∧ SqL K H a (ns.map V.int) ∧ 0 ≤ st ∧ st ≤ 500 ∧ 1 ≤ most ∧ most ≤ 12 ∧ ∀ (m : Addr) (many : Int) (rs : Rms) (H' : Hp), Same H H' → MAt H' m many rs → Good many rs → (rs.length : Int) ≤ most → Q (.ref m) H'
section
variable {P : Program} {w : World} {K : PySem.W.Frag} {mg : Str → Option Value} {base : Heap}

theorem scCe : FnScope ["_law_script", "_law_k"] ["_law_script", "_law_k"] (defScope sCe) := ⟨rfl, rfl, rfl, by decide +kernel, rfl, by decide +kernel, by decide +kernel⟩
theorem ok_ce {f : Addr} {fd : FuncData} (F : Fun K "_law_cell_at" "_law_cell_at" sCe f fd) (T : Txt mg) : FnOk P w K mg base CX0 1 f fd ["_law_script", "_law_k"] (spCe K) := by
  refine F.ok scCe (fun vs H Q E h => ?_) (fun cdv A outer s H vs Q E hr h => ?_)
  · obtain ⟨a, ns, k, rfl, _⟩ := h
    rfl
  · obtain ⟨a, ns, k, rfl, hS, k0, k1, kk⟩ := h
    have hu : _ < cLine := Nat.lt_of_succ_lt (hu_of hr)
    refine ⟨_, pss_cons (ps_if (pt_cmpR op_lt (pv 1) (pe_callB call_len_seq (by rfl) T.len PySem.boot_len (pa_cons (pv 0) pa_nil)) (nomark _)) (pss_one (ps_ret (pe_ix ix_list (pv 0) (pv 1) (fun _ _ => rfl)))) pss_nil)
      (pss_cons (ps_if (pt_cmpR (op_eqL hu) (pv 0) (pe_lst pa_nil) (nomark _)) (pss_one (ps_ret (pe_op op_mod (pe_op op_mul (pe_op op_add (pe_op op_mul (pv 1) (pv 1)) pe_int) pe_int) pe_int))) pss_nil)
      (pss_one (ps_ret (pe_op op_mod (pe_op op_mul (pe_op op_add (pe_op op_mod (pe_ix ix_list (pv 0) pe_int (fun _ _ => rfl)) pe_int) pe_int) (pe_op op_add (pe_op op_mul (pv 1) (pv 1)) pe_int)) pe_int)))), ?_⟩
    refine ⟨_, rfl, _, rfl, a, _, rfl, .inl hS, _, _, rfl, rfl, _, rfl, ?_⟩
    refine ite2 (fun hlt => ?_) (fun hge => ?_)
    · have hlt' : k < (ns.length : Int) := by simpa using hlt
      obtain ⟨z, ez⟩ := some_at ns k k0 hlt'
      exact ⟨_, rfl, _, rfl, a, _, _, _, rfl, rfl, hS, atI_int k0 (by rw [List.getElem?_map, ez]; rfl), kk z H (Same.refl H)⟩
    · refine ⟨_, rfl, Nat.zero_le _, fun l hl => ?_⟩
      have s1 : Same H (upd H l (.lst [])) := (Same.refl H).upd_free hl
      refine ⟨a, l, _, _, rfl, rfl, s1.seq hS, SqL.of upd_same, ints_flat ns, rfl, _, rfl, ?_⟩
      cases ns with
      | nil =>
        refine iteT ?_
        exact ⟨_, rfl, _, rfl, _, _, rfl, rfl, .inl ⟨by omega, by omega⟩, _, _, rfl, rfl, _, _, rfl, rfl, .inr ⟨by decide, by decide⟩, _, _, rfl, rfl, (by show (0 : Int) < 2147483647; decide), kk _ _ s1⟩
      | cons n0 ns =>
        refine iteF ?_
        refine ⟨_, rfl, a, _, _, .int n0, rfl, rfl, s1.seq hS, atI_int (Int.le_refl 0) rfl, _, _, rfl, rfl, (by show (0 : Int) < 2147483647; decide), _, _, rfl, rfl, _, rfl, _, rfl, _, _, rfl, rfl, .inl ⟨by omega, by omega⟩, _, _, rfl, rfl, _, _, rfl, rfl, .inl ⟨by omega, by omega⟩, _, _, rfl, rfl, (by show (0 : Int) < 2147483629; decide), kk _ _ s1⟩

theorem scMa : FnScope ["_law_script", "_law_start", "_law_most", "_law_head", "_law_many", "_law_size", "_law_rooms", "_law_k", "_law_at", "_law_nexts"] ["_law_script", "_law_start", "_law_most"] (defScope sMa) := ⟨rfl, rfl, rfl, by decide +kernel, rfl, by decide +kernel, by decide +kernel⟩
def scopeJ : Scope := { kind := .function, names := [(".0", .local), ("_law_j", .local), ("_law_cell_at", .globalImplicit), ("_law_at", .free), ("_law_script", .free), ("_law_size", .free)], isGenerator := false, isCoroutine := false, more := [] }
theorem scJ : BlkScope (defScope sMa) ["_law_script", "_law_start", "_law_most", "_law_head", "_law_many", "_law_size", "_law_rooms", "_law_k", "_law_at", "_law_nexts"] ["_law_j"] ["_law_at", "_law_script", "_law_size"] [8, 0, 5] scopeJ :=
  ⟨rfl, by decide +kernel, by decide +kernel, by decide +kernel, rfl, by decide +kernel, by decide +kernel⟩
theorem ok_ma {f fc : Addr} {fd fdc : FuncData} (F : Fun K "_law_machine" "_law_machine" sMa f fd) (T : Txt mg) (FC : Fun K "_law_cell_at" "_law_cell_at" sCe fc fdc) (bC : Binds K fdc ["_law_script", "_law_k"] []) (gC : mg "_law_cell_at" = some (.ref fc)) :
    FnOk P w K mg base CX0 2 f fd ["_law_script", "_law_start", "_law_most"] (spMg K) := by
  have GC : FnOk P w K mg base CX0 1 fc fdc ["_law_script", "_law_k"] (spCe K) := ok_ce FC T
  refine F.ok scMa (fun vs H Q E h => ?_) (fun cdv A outer s H vs Q E hr h => ?_)
  · obtain ⟨a, ns, st, most, rfl, _⟩ := h
    rfl
  · obtain ⟨a, ns, st, most, rfl, hS, st0, st1, mo0, mo1, k⟩ := h
    refine ⟨_, pss_cons (ps_set (i := 3) scMa.nd rfl (Or.inl rfl) (pe_call GC hr rfl gC FC.kp bC .nil pass0 (pa_cons (pv 0) (pa_cons (pv 1) pa_nil))))
      (pss_cons (ps_set (i := 4) scMa.nd rfl (Or.inl rfl) (pe_op op_mod (pv 3) pe_int))
      (pss_cons (ps_cut (ps_if (pt_cmpR op_eq (pe_op op_mod (pe_op op_fdiv (pv 3) pe_int) pe_int) pe_int (nomark _)) (pss_one (ps_set (i := 4) scMa.nd rfl (Or.inl rfl) pe_int)) pss_nil))
      (pss_cons (ps_cut (ps_set (i := 5) scMa.nd rfl (Or.inr rfl) (pe_op op_add pe_int (pe_op op_mod (pe_op op_fdiv (pv 3) pe_int) (pv 2)))))
      (pss_cons (ps_set (i := 6) scMa.nd rfl (Or.inl rfl) (pe_lst pa_nil))
      (pss_cons (ps_for PassesOwn.never rfl (pi_range1 rfl T.range (pa_cons (pv 5) pa_nil)) (pg_name (i := 7) scMa.nd rfl (Or.inl rfl))
        (pss_cons (ps_cut (ps_set (i := 8) scMa.nd rfl (Or.inr rfl) (pe_op op_add (pe_op op_add (pv 1) pe_int) (pe_op op_mul (pv 7) (pe_op op_add (pv 4) pe_int)))))
        (pss_cons (ps_setlc (i := 9) scJ rfl rfl rfl (pi_range1 rfl T.range (pa_cons (pv 4) pa_nil)) (fun fp C s1 H1 => pg_name (i := 0) scJ.nd rfl (Or.inl rfl)) (fun fp C s1 H1 => pts_nil)
          (fun fp C s1 H1 => pe_op op_mod (pe_call GC hr rfl gC FC.kp bC .nil pass0 (pa_cons (pv 2) (pa_cons (pe_op op_add (pe_op op_add (pv 1) pe_int) (pv 0)) pa_nil))) (pv 3)) scMa.nd rfl rfl rfl)
        (pss_one (ps_expr (pe_bm PySem.F.plainAttrs_list PySem.F.slot_list_append PySem.F.type_list_append mt_append (pv 6) (pa_cons (pe_tup (pa_cons (pe_cmpR op_eq (pe_op op_mod (pe_call GC hr rfl gC FC.kp bC .nil pass0 (pa_cons (pv 0) (pa_cons (pv 8) pa_nil))) pe_int) pe_int (nomark _))
          (pa_cons (pe_callTy call_tuple_of (by rfl) T.tuple PyProof.Rows.boot_tuple (pa_cons (pv 9) pa_nil)) pa_nil))) pa_nil)))))))
      (pss_one (ps_ret (pe_tup (pa_cons (pv 4) (pa_cons (pe_callTy call_tuple_of (by rfl) T.tuple PyProof.Rows.boot_tuple (pa_cons (pv 6) pa_nil)) pa_nil)))))))))), ?_⟩
    -- head, many
    refine ⟨_, rfl, _, rfl, a, ns, st, rfl, hS, by omega, by omega, fun hd H1 s1 => ?_⟩
    refine ⟨_, rfl, _, _, rfl, rfl, (by show (0 : Int) < 4; decide), ?_⟩
    refine ⟨fun σ' H' => ∃ many : Int, 0 ≤ many ∧ many ≤ 8 ∧ σ' = [some (.ref a), some (.int st), some (.int most), some (.int hd), some (.int many), none, none, none, none, none] ∧ H' = H1, ?_, ?_⟩
    · refine ⟨_, rfl, _, _, rfl, rfl, ⟨by decide, by decide⟩, _, _, rfl, rfl, (by show (0 : Int) < 8; decide), rfl, _, rfl, ?_⟩
      refine ite2 (fun _ => ?_) (fun _ => ?_)
      · exact ⟨8, by decide, by decide, rfl, rfl⟩
      · exact ⟨hd % 4, by omega, by omega, rfl, rfl⟩
    rintro σ' H' ⟨many, m0, m1, rfl, rfl⟩
    -- size, rooms
    refine ⟨fun σ' H2 => ∃ size : Int, 1 ≤ size ∧ size ≤ most ∧ σ' = [some (.ref a), some (.int st), some (.int most), some (.int hd), some (.int many), some (.int size), none, none, none, none] ∧ H2 = H', ?_, ?_⟩
    · refine ⟨_, rfl, _, _, rfl, rfl, ⟨by decide, by decide⟩, _, rfl, _, _, rfl, rfl, (by omega), _, _, rfl, rfl, ?_⟩
      have q0 : 0 ≤ hd / 32 % most := Int.emod_nonneg _ (by omega)
      have q1 : hd / 32 % most < most := Int.emod_lt_of_pos _ (by omega)
      exact ⟨1 + hd / 32 % most, by omega, by omega, rfl, rfl⟩
    rintro σ' H2 ⟨size, z0, z1, rfl, rfl⟩
    refine ⟨Nat.zero_le _, fun l hl => ?_⟩
    have s2 : Same H (upd H2 l (.lst [])) := s1.upd_free (s1.free hl)
    have hlH : H l = none := s1.free hl
    refine ⟨_, rfl, _, rfl, by omega, by omega, ?_⟩
    refine for_range (n := size.toNat) (fun i σ H2 => ∃ (qs : List Addr) (rs : Rms) (v7 v8 v9 : Option V), σ = [some (.ref a), some (.int st), some (.int most), some (.int hd), some (.int many), some (.int size), some (.ref l), v7, v8, v9] ∧
        Same H H2 ∧ H2 l = some (.lst (qs.map V.ref)) ∧ RowsAt H2 qs rs ∧ rs.length = i ∧ ∀ r ∈ rs, (r.2.length : Int) = many ∧ ∀ n ∈ r.2, 0 ≤ n ∧ n < size)
      ⟨[], [], none, none, none, rfl, s2, upd_same, ⟨rfl, fun i r e => by simp at e⟩, rfl, fun r hr => by simp at hr⟩ ?_ ?_
    · rintro i σ H2 hi ⟨qs, rs, v7, v8, v9, rfl, t2, hL, hR, hlen, hrow⟩
      have i1 : (i : Int) < size := by omega
      -- at
      have p0 : 0 ≤ (i : Int) * (many + 1) := Int.mul_nonneg (by omega) (by omega)
      have p1 : (i : Int) * (many + 1) ≤ 12 * 9 := Int.mul_le_mul (by omega) (by omega) (by omega) (by omega)
      have e0 : 0 + (i : Int) = (i : Int) := Int.zero_add _
      refine ⟨fun σ' H' => ∃ at' : Int, 0 ≤ at' ∧ at' ≤ 700 ∧ σ' = [some (.ref a), some (.int st), some (.int most), some (.int hd), some (.int many), some (.int size), some (.ref l), some (.int (0 + (i : Int))), some (.int at'), v9] ∧ H2 = H', ?_, ?_⟩
      · refine ⟨_, rfl, _, _, rfl, rfl, _, rfl, _, rfl, _, _, rfl, rfl, _, _, rfl, rfl, .inr ⟨by omega, by omega⟩, _, _, rfl, rfl, ?_⟩
        refine ⟨st + 1 + (0 + (i : Int)) * (many + 1), ?_, ?_, rfl, rfl⟩
        · rw [e0]; omega
        · rw [e0]; omega
      rintro σ' H' ⟨at', a0, a1, rfl, rfl⟩
      -- nexts
      refine ⟨_, rfl, _, rfl, by omega, by omega, fun D hD => ?_⟩
      have hDH : H D = none := t2.free hD
      have sD : Same H2 (upd H2 D (.lst [])) := (Same.refl H2).upd_free hD
      refine lc_range (n := many.toNat) (fun j ys H3 => Same H2 H3 ∧ H3 D = some (.lst ys) ∧ ys.length = j ∧ ∃ xs : List Int, ys = xs.map V.int ∧ ∀ x ∈ xs, 0 ≤ x ∧ x < size) (Nat.le_of_lt (small1000 (by omega)))
        ⟨sD, upd_same, rfl, [], rfl, fun x hx => by simp at hx⟩ (fun j ys H3 h => Nat.le_of_eq h.2.2.1) ?_ ?_
      · rintro j ys H3 N M hj ⟨u1, u2, u3, xs, rfl, u5⟩ hN hM
        refine ⟨_, rfl, _, rfl, _, _, rfl, rfl, _, rfl, _, _, rfl, rfl, a, ns, _, rfl, (t2.trans u1).seq hS, by omega, by omega, fun z H4 u6 => ?_⟩
        refine ⟨_, rfl, _, _, rfl, rfl, by omega, ?_⟩
        refine hN _ H4 (u6 _ _ u2) ⟨(u1.trans u6).upd_free hD, upd_same, by rw [List.length_append, List.length_singleton, u3], xs ++ [z % size], by rw [List.map_append]; rfl, fun x hx => ?_⟩
        rcases List.mem_append.mp hx with hx | hx
        · exact u5 x hx
        · rw [List.mem_singleton] at hx
          subst hx
          exact ⟨Int.emod_nonneg _ (by omega), Int.emod_lt_of_pos _ (by omega)⟩
      · rintro ys H3 ⟨u1, u2, u3, xs, rfl, u5⟩
        have xl : (xs.length : Int) = many := by rw [List.length_map] at u3; omega
        have nlD : l ≠ D := ne_of_none hL hD
        -- append
        refine ⟨_, rfl, .inl ⟨rfl, _, SqL.of (u1 _ _ hL)⟩, _, rfl, _, rfl, a, ns, _, rfl, (t2.trans u1).seq hS, by omega, by omega, fun z H4 u6 => ?_⟩
        refine ⟨_, _, rfl, rfl, (by show (0 : Int) < cMod; decide), rfl, _, rfl, D, _, rfl, .inl ⟨SqL.of (u6 _ _ u2), fun zt hzt => ?_⟩⟩
        refine ⟨(by show 2 ≤ sizeLine; decide), fun q hq => ?_⟩
        have nzq : zt ≠ q := fun e => by rw [e, upd_same] at hq; cases hq
        have hq4 : H4 q = none := by rw [upd_ne (Ne.symm nzq)] at hq; exact hq
        have v1 : Same H2 H4 := u1.trans u6
        have v2 : Same H2 (upd H4 zt (.tup (xs.map V.int))) := v1.upd_free (v1.free hzt)
        have v3 : Same H2 (upd (upd H4 zt (.tup (xs.map V.int))) q (.tup [.bl (decide (V.int (z % cMod) = V.int 1)), .ref zt])) := v2.upd_free (v1.free hq4)
        refine ⟨l, _, _, rfl, rfl, v3 _ _ hL, ?_, ?_⟩
        · rw [List.length_map, hR.1, hlen]
          exact small1000 (by omega)
        · have nlq : l ≠ q := ne_of_none hL (v1.free hq4)
          have nlz : l ≠ zt := ne_of_none hL (v1.free hzt)
          have w1 : Same H (upd (upd (upd H4 zt (.tup (xs.map V.int))) q (.tup [.bl (decide (V.int (z % cMod) = V.int 1)), .ref zt])) l (.lst (qs.map V.ref ++ [.ref q]))) := (t2.trans v3).upd_free hlH
          refine ⟨qs ++ [q], rs ++ [(decide (V.int (z % cMod) = V.int 1), xs)], _, _, _, rfl, w1, ?_, ⟨?_, ?_⟩, ?_, ?_⟩
          · rw [upd_same, List.map_append]
            rfl
          · rw [List.length_append, List.length_append, hR.1]
            rfl
          · intro i' r' e'
            by_cases hlt : i' < rs.length
            · rw [List.getElem?_append_left hlt] at e'
              obtain ⟨q', z', f1, f2, f3⟩ := hR.2 i' r' e'
              have n2 : q' ≠ l := ne_of f2 hL (by intro z; cases z)
              have n3 : z' ≠ l := ne_of f3 hL (by intro z; cases z)
              refine ⟨q', z', ?_, ?_, ?_⟩
              · rw [List.getElem?_append_left (by rw [hR.1]; exact hlt)]
                exact f1
              · rw [upd_ne n2]
                exact v3 _ _ f2
              · rw [upd_ne n3]
                exact v3 _ _ f3
            · rw [List.getElem?_append_right (by omega)] at e'
              have hi' : i' - rs.length = 0 := by
                cases h : i' - rs.length with
                | zero => rfl
                | succ n => rw [h] at e'; simp at e'
              rw [hi'] at e'
              cases e'
              refine ⟨q, zt, ?_, ?_, ?_⟩
              · have : i' = qs.length := by rw [hR.1]; omega
                rw [this, List.getElem?_append_right (Nat.le_refl _), Nat.sub_self]
                rfl
              · rw [upd_ne (Ne.symm nlq), upd_same]
              · rw [upd_ne (Ne.symm nlz), upd_ne nzq, upd_same]
          · rw [List.length_append, hlen]
            rfl
          · intro r hr'
            rcases List.mem_append.mp hr' with hr' | hr'
            · exact hrow r hr'
            · rw [List.mem_singleton] at hr'
              subst hr'
              exact ⟨xl, u5⟩
    · rintro σ H2 ⟨qs, rs, v7, v8, v9, rfl, t2, hL, hR, hlen, hrow⟩
      refine ⟨_, rfl, _, rfl, l, _, rfl, .inl ⟨SqL.of hL, fun p hp => ?_⟩⟩
      refine ⟨(by show 2 ≤ sizeLine; decide), fun m hm => ?_⟩
      have npm : p ≠ m := fun e => by rw [e, upd_same] at hm; cases hm
      have hm2 : H2 m = none := by rw [upd_ne (Ne.symm npm)] at hm; exact hm
      have v1 : Same H2 (upd H2 p (.tup (qs.map V.ref))) := (Same.refl H2).upd_free hp
      have v2 : Same H2 (upd (upd H2 p (.tup (qs.map V.ref))) m (.tup [.int many, .ref p])) := v1.upd_free hm2
      refine k m many rs _ (t2.trans v2) ⟨p, qs, upd_same, ?_, hR.same v2⟩ ⟨⟨m0, m1⟩, by omega, by omega, fun r hr' => ?_⟩ ?_
      · rw [upd_ne npm, upd_same]
      · have q := hrow r hr'
        refine ⟨q.1, fun n hn => ?_⟩
        have q2 := q.2 n hn
        omega
      · omega
end
end K21
namespace K23
open PySem L2 K20 K21 K60


structure FI (rs : Rms) (ns : List Int) (i : Nat) (xs : List (KP × Addr × V)) (ms : List Int) : Prop where
  ml : ms.length = i
  xl : xs.length ≤ i
  vl : ∀ (k : Nat) (x : KP × Addr × V), xs[k]? = some x → x.2.2 = .int (k : Int)
  nd : (xs.map (·.1)).Nodup
  at' : ∀ a : Nat, a < i → ∃ (k : Nat) (x : KP × Addr × V), xs[k]? = some x ∧ x.1 = mark rs ns (a : Int) ∧ ms[a]? = some (k : Int)
theorem atP_some {k : KP} {u : V} : ∀ {xs : List (KP × Addr × V)}, atP xs k = some u → ∃ (j : Nat) (x : KP × Addr × V), xs[j]? = some x ∧ x.1 = k ∧ u = x.2.2
  | [], h => by cases h
  | p :: ps, h => by
    by_cases e : p.1 = k
    · have c : atP (p :: ps) k = some p.2.2 := by simp [atP, List.find?_cons, e]
      rw [c] at h
      cases h
      exact ⟨0, p, rfl, e, rfl⟩
    · have c : atP (p :: ps) k = atP ps k := by simp [atP, List.find?_cons, e]
      rw [c] at h
      obtain ⟨j, x, h1, h2⟩ := atP_some h
      exact ⟨j + 1, x, by simpa using h1, h2⟩
theorem atP_none {k : KP} : ∀ {xs : List (KP × Addr × V)}, atP xs k = none → k ∉ xs.map (·.1)
  | [], _ => by simp
  | p :: ps, h => by
    by_cases e : p.1 = k
    · have c : atP (p :: ps) k = some p.2.2 := by simp [atP, List.find?_cons, e]
      rw [c] at h
      cases h
    · have c : atP (p :: ps) k = atP ps k := by simp [atP, List.find?_cons, e]
      rw [c] at h
      have := atP_none h
      rw [List.map_cons, List.mem_cons, not_or]
      exact ⟨fun z => e z.symm, this⟩
theorem FI.old {rs : Rms} {ns : List Int} {i : Nat} {xs : List (KP × Addr × V)} {ms : List Int} {j : Nat} {x : KP × Addr × V} (F : FI rs ns i xs ms) (h : xs[j]? = some x) (e : x.1 = mark rs ns i) : FI rs ns (i + 1) xs (ms ++ [(j : Int)]) := by
  refine ⟨by rw [List.length_append, F.ml]; rfl, by have := F.xl; omega, F.vl, F.nd, fun a ha => ?_⟩
  by_cases hl : a < i
  · obtain ⟨k, x, h1, h2, h3⟩ := F.at' a hl
    exact ⟨k, x, h1, h2, by rw [List.getElem?_append_left (by rw [F.ml]; exact hl)]; exact h3⟩
  · have ea : a = i := by omega
    subst ea
    refine ⟨j, x, h, e, ?_⟩
    rw [List.getElem?_append_right (by rw [F.ml]; exact Nat.le_refl _), F.ml, Nat.sub_self]
    rfl
theorem FI.new {rs : Rms} {ns : List Int} {i : Nat} {xs : List (KP × Addr × V)} {ms : List Int} {b : Addr} (F : FI rs ns i xs ms) (h : mark rs ns i ∉ xs.map (·.1)) : FI rs ns (i + 1) (xs ++ [(mark rs ns i, b, .int xs.length)]) (ms ++ [(xs.length : Int)]) := by
  have lt : ∀ {k : Nat} {x : KP × Addr × V}, xs[k]? = some x → (xs ++ [(mark rs ns i, b, V.int xs.length)])[k]? = some x := fun {k x} h => by
    rw [List.getElem?_append_left (List.getElem?_eq_some_iff.mp h).1]
    exact h
  have last : (xs ++ [(mark rs ns i, b, V.int xs.length)])[xs.length]? = some (mark rs ns i, b, V.int xs.length) := by
    rw [List.getElem?_append_right (Nat.le_refl _), Nat.sub_self]
    rfl
  refine ⟨by rw [List.length_append, F.ml]; rfl, by have := F.xl; rw [List.length_append, List.length_singleton]; omega, fun k x hk => ?_, ?_, fun a ha => ?_⟩
  · by_cases hl : k < xs.length
    · rw [List.getElem?_append_left hl] at hk
      exact F.vl k x hk
    · have hk2 := (List.getElem?_eq_some_iff.mp hk).1
      rw [List.length_append, List.length_singleton] at hk2
      have ek : k = xs.length := by omega
      subst ek
      rw [last] at hk
      cases hk
      rfl
  · rw [List.map_append, List.nodup_append]
    refine ⟨F.nd, by simp, fun p hp q hq => ?_⟩
    have : q = mark rs ns i := by simpa using hq
    subst this
    intro z
    subst z
    exact h hp
  · by_cases hl : a < i
    · obtain ⟨k, x, h1, h2, h3⟩ := F.at' a hl
      exact ⟨k, x, lt h1, h2, by rw [List.getElem?_append_left (by rw [F.ml]; exact hl)]; exact h3⟩
    · have ea : a = i := by omega
      subst ea
      refine ⟨xs.length, _, last, rfl, ?_⟩
      rw [List.getElem?_append_right (by rw [F.ml]; exact Nat.le_refl _), F.ml, Nat.sub_self]
      rfl
theorem FI.fine {rs : Rms} {ns : List Int} {xs : List (KP × Addr × V)} {ms : List Int} (F : FI rs ns rs.length xs ms) : Fine rs ns ms := by
  refine ⟨F.ml, fun x y hx hy => ?_⟩
  obtain ⟨k, p, h1, h2, h3⟩ := F.at' x.toNat (by have := hx.1; have := hx.2; omega)
  obtain ⟨j, q, g1, g2, g3⟩ := F.at' y.toNat (by have := hy.1; have := hy.2; omega)
  have ex : ((x.toNat : Nat) : Int) = x := by have := hx.1; omega
  have ey : ((y.toNat : Nat) : Int) = y := by have := hy.1; omega
  rw [ex] at h2
  rw [ey] at g2
  have e1 : kn ms x = (k : Int) := getD_of h3
  have e2 : kn ms y = (j : Int) := getD_of g3
  rw [e1, e2, ← h2, ← g2]
  constructor
  · intro e
    have : k = j := by omega
    subst this
    rw [h1] at g1
    cases g1
    rfl
  · intro e
    obtain ⟨a1, b1⟩ := List.getElem?_eq_some_iff.mp h1
    obtain ⟨a2, b2⟩ := List.getElem?_eq_some_iff.mp g1
    have : k = j := (List.getElem_inj (xs := xs.map (·.1)) (h₀ := by rw [List.length_map]; exact a1) (h₁ := by rw [List.length_map]; exact a2) F.nd).mp (by rw [List.getElem_map, List.getElem_map, b1, b2, e])
    rw [this]
def spFk : Sp := fun vs H Q _ => ∃ (p c : Addr) (qs : List Addr) (many : Int) (rs : Rms) (ks : List V) (ns : List Int), vs = [.ref p, .ref c] ∧ H p = some (.tup (qs.map V.ref)) ∧ RowsAt H qs rs ∧ Good many rs ∧ H c = some (.lst ks) ∧ Nums ks ns ∧ ns.length = rs.length ∧
  ∀ (l : Addr) (ms : List Int) (H' : Hp), Same H H' → H l = none → H' l = some (.lst (ms.map V.int)) → Fine rs ns ms → Q (.ref l) H'
section
variable {P : Program} {w : World} {K : PySem.W.Frag} {mg : Str → Option Value} {base : Heap}
theorem scFk : FnScope ["rooms", "kinds", "numbers", "found", "room", "kind", "mark"] ["rooms", "kinds"] (defScope sFk) := ⟨rfl, rfl, rfl, by decide +kernel, rfl, by decide +kernel, by decide +kernel⟩
def scopeFk : Scope := { kind := .function, names := [(".0", .local), ("there", .local), ("kinds", .free)], isGenerator := false, isCoroutine := false, more := [] }
theorem scFk1 : BlkScope (defScope sFk) ["rooms", "kinds", "numbers", "found", "room", "kind", "mark"] ["there"] ["kinds"] [1] scopeFk := ⟨rfl, by decide +kernel, by decide +kernel, by decide +kernel, rfl, by decide +kernel, by decide +kernel⟩
theorem ok_fk {f : Addr} {fd : FuncData} (F : Fun K "finer_kinds" "finer_kinds" sFk f fd) (T : Txt mg) : FnOk P w K mg base CX0 1 f fd ["rooms", "kinds"] spFk := by
  refine F.ok scFk (fun vs H Q E h => ?_) (fun cdv A outer s H vs Q E hr h => ?_)
  · obtain ⟨p, c, qs, many, rs, ks, ns, rfl, _⟩ := h
    rfl
  · obtain ⟨p, c, qs, many, rs, ks, ns, rfl, hp, hR, G, hc, hN, hnl, k⟩ := h
    have gle := G.le
    refine ⟨_, pss_cons (ps_set (i := 2) scFk.nd rfl (Or.inl rfl) pe_pnew)
      (pss_cons (ps_set (i := 3) scFk.nd rfl (Or.inl rfl) (pe_lst pa_nil))
      (pss_cons (ps_for PassesOwn.never rfl (pi_zipg true false rfl T.zip (pa_cons (pv 0) (pa_cons (pv 1) pa_nil))) (pg_tup (n := 2) rfl (pgs_cons (pg_name (i := 4) scFk.nd rfl (Or.inl rfl)) (pgs_cons (pg_name (i := 5) scFk.nd rfl (Or.inl rfl)) pgs_nil)))
        (pss_cons (ps_set (i := 6) scFk.nd rfl (Or.inl rfl) (pe_tup (pa_cons (pv 5) (pa_cons (pe_callTy call_tuple_of (by rfl) T.tuple PyProof.Rows.boot_tuple (pa_cons (pe_lc scFk1 rfl rfl rfl (pi_tup (pe_ix ix_tup (pv 4) pe_int (fun _ _ => rfl))) (fun fp C s1 H1 => pg_name (i := 0) scFk1.nd rfl (Or.inl rfl)) (fun fp C s1 H1 => pts_nil) (fun fp C s1 H1 => pe_ix (r := rIxL K) ix_list (pv 1) (pv 0) (fun _ _ => rfl))) pa_nil)) pa_nil))))
        (pss_one (ps_expr (pe_bm PySem.F.plainAttrs_list PySem.F.slot_list_append PySem.F.type_list_append mt_append (pv 3) (pa_cons (pe_setdef (Nat.lt_of_le_of_lt (Nat.add_le_add_left (by decide : 2 ≤ 64) _) hr.units) (pv 2) (pv 6) (pe_callB call_lenP (by rfl) T.len PySem.boot_len (pa_cons (pv 2) pa_nil)) ⟨rfl, rfl, rfl, rfl⟩) pa_nil))))))
      (pss_one (ps_ret (pv 3))))), ?_⟩
    intro dn hdn
    refine ⟨Nat.zero_le _, fun l hl => ?_⟩
    have ndl : dn ≠ l := fun e => by rw [e, upd_same] at hl; cases hl
    have hlH : H l = none := by rw [upd_ne (Ne.symm ndl)] at hl; exact hl
    have s0 : Same H (upd (upd H dn (PD P w dn [])) l (.lst [])) := ((Same.refl H).upd_free hdn).upd_free hlH
    refine ⟨_, rfl, _, rfl, p, c, rfl, ⟨_, SqT.of (s0 _ _ hp)⟩, ⟨_, SqL.of (s0 _ _ hc)⟩, ?_⟩
    have hql : (qs.map V.ref).length = rs.length := by rw [List.length_map]; exact hR.1
    have hkl : ks.length = rs.length := by rw [hN.length, hnl]
    refine for_zipg (K := K) (t := true) (u := false) (a := p) (b := c) (xs := qs.map V.ref) (ys := ks) (by omega) (fun i σ H2 => ∃ (xs : List (KP × Addr × V)) (ms : List Int) (v4 v5 v6 : Option V), σ = [some (.ref p), some (.ref c), some (.ref dn), some (.ref l), v4, v5, v6] ∧ Same H H2 ∧ H2 dn = some (PD P w dn xs) ∧ PKs H2 xs ∧ H2 l = some (.lst (ms.map V.int)) ∧ FI rs ns i xs ms)
      ⟨[], [], none, none, none, rfl, s0, by rw [upd_ne ndl, upd_same]; rfl, fun x hx => (by cases hx), upd_same, ⟨rfl, Nat.le_refl _, fun k x h => by simp at h, by simp, fun a ha => by omega⟩⟩ (fun i σ H2 _ ⟨_, _, _, _, _, _, s2, _⟩ => ⟨SqT.of (s2 _ _ hp), SqL.of (s2 _ _ hc)⟩) ?_ ?_
    · rintro i x y σ H2 pt hx hy ⟨xs, ms, v4, v5, v6, rfl, s2, hD, hPK, hL, FIi⟩ hpt
      have hi : i < rs.length := by
        have := (List.getElem?_eq_some_iff.mp hx).1
        omega
      obtain ⟨r, er⟩ : ∃ r, rs[i]? = some r := ⟨rs[i], by simp [hi]⟩
      obtain ⟨q, z, e1, e2, e3⟩ := hR.2 i r er
      rw [List.getElem?_map, e1] at hx
      cases hx
      obtain ⟨n, en⟩ : ∃ n, ns[i]? = some n := ⟨ns[i]'(by omega), by simp⟩
      obtain ⟨y', ey, ny⟩ := hN.get en
      rw [ey] at hy
      cases hy
      have sp : Same H2 (upd H2 pt (.tup [.ref q, y])) := (Same.refl H2).upd_free hpt
      have t2 : Same H (upd H2 pt (.tup [.ref q, y])) := s2.trans sp
      have hrow := G.row r (List.mem_of_getElem? er)
      have gmn := G.mn
      refine ⟨pt, _, rfl, SqT.of upd_same, rfl, _, _, rfl, _, _, rfl, rfl, ?_⟩
      -- the mark
      refine ⟨_, rfl, _, rfl, q, _, _, _, rfl, rfl, SqT.of (t2 _ _ e2), rfl, z, rfl, ⟨_, SqT.of (t2 _ _ e3)⟩, fun D hD0 => ?_⟩
      have sD : Same (upd H2 pt (.tup [.ref q, y])) (upd (upd H2 pt (.tup [.ref q, y])) D (.lst [])) := (Same.refl _).upd_free hD0
      refine lc_tup (K := K) (a := z) (xs := r.2.map V.int) (fun j ys H3 => Same (upd H2 pt (.tup [.ref q, y])) H3 ∧ H3 D = some (.lst ys) ∧ ys.length = j ∧ Nums ys ((r.2.take j).map (kn ns))) (Nat.le_of_lt (small1000 (by rw [List.length_map]; omega)))
        ⟨sD, upd_same, rfl, rfl⟩ (fun j ys H3 h => Nat.le_of_eq h.2.2.1) (fun j ys H3 h => SqT.of (h.1 _ _ (t2 _ _ e3))) ?_ ?_
      · rintro j ys H3 x N M hx ⟨u1, u2, u3, u4⟩ hN' hM
        rw [List.getElem?_map] at hx
        cases et : r.2[j]? with
        | none => rw [et] at hx; cases hx
        | some t =>
          rw [et] at hx
          cases hx
          have ht := hrow.2 t (List.mem_of_getElem? et)
          obtain ⟨nt, ent⟩ := some_at ns t ht.1 (by rw [hnl]; exact ht.2)
          obtain ⟨kt, ekt, nkt⟩ := hN.get ent
          refine ⟨_, rfl, _, rfl, c, _, _, _, rfl, rfl, SqL.of (u1 _ _ (t2 _ _ hc)), atI_int ht.1 ekt, ?_⟩
          refine hN' _ H3 u2 ⟨u1.upd_free hD0, upd_same, by rw [List.length_append, List.length_singleton, u3], ?_⟩
          rw [List.take_add_one, et, List.map_append]
          refine u4.snoc ?_
          rw [nkt]
          exact congrArg some (getD_of ent).symm
      · rintro ys H3 ⟨u1, u2, u3, u4⟩
        rw [List.length_map, List.take_of_length_le (Nat.le_refl _)] at u4
        refine ⟨D, _, rfl, .inl ⟨SqL.of u2, fun zt hzt => ?_⟩⟩
        refine ⟨(by show 2 ≤ sizeLine; decide), fun mq hmq => ?_⟩
        have nzm : zt ≠ mq := fun e => by rw [e, upd_same] at hmq; cases hmq
        have hmq3 : H3 mq = none := by rw [upd_ne (Ne.symm nzm)] at hmq; exact hmq
        generalize hH4 : upd (upd H3 zt (.tup ys)) mq (.tup [y, .ref zt]) = H4
        have s34 : Same H3 H4 := by rw [← hH4]; exact ((Same.refl H3).upd_free hzt).upd_free hmq3
        have s24 : Same H2 H4 := (sp.trans u1).trans s34
        have kP : PKy H4 (mark rs ns i) mq := by
          refine ⟨y, zt, ys, by rw [← hH4]; exact upd_same, ?_, by rw [← hH4, upd_ne nzm]; exact upd_same, ?_⟩
          · rw [ny]
            show some n = some (ns.getD ((i : Int)).toNat 0)
            rw [Int.toNat_natCast, getD_of en]
          · show Nums ys ((nx rs i).map (kn ns))
            unfold nx
            rw [Int.toNat_natCast, getD_of er]
            exact u4
        have hPK4 : PKs H4 xs := fun x hx => (hPK x hx).same s24.tups
        have hxl := FIi.xl
        refine ⟨_, rfl, .inl ⟨rfl, _, SqL.of (s24 _ _ hL)⟩, _, rfl, dn, xs, rfl, s24 _ _ hD, hPK4, _, rfl, _, rfl, dn, xs, rfl, s24 _ _ hD, hPK4, xs, mq, mark rs ns i, rfl, s24 _ _ hD, hPK4, kP, small1000 (by omega), fun u hu => ?_, fun hn => ?_⟩
        · obtain ⟨j, x, g1, g2, g3⟩ := atP_some hu
          have gv := FIi.vl j x g1
          refine ⟨l, _, _, rfl, rfl, s24 _ _ hL, small1000 (by rw [List.length_map, FIi.ml]; omega), ?_⟩
          refine ⟨xs, ms ++ [(j : Int)], _, _, _, rfl, (s2.trans s24).upd_free hlH, ?_, fun x hx => (hPK4 x hx).same fun c' ys' ec => ?_, ?_, FIi.old g1 g2⟩
          · rw [upd_ne ndl]
            exact s24 _ _ hD
          · rw [upd_ne (ne_of ec (s24 _ _ hL) (fun z => nomatch z))]
            exact ec
          · rw [upd_same, g3, gv, List.map_append]
            rfl
        · have hno := atP_none hn
          have hL4 : (upd H4 dn (PD P w dn (xs ++ [(mark rs ns i, mq, V.int xs.length)]))) l = some (.lst (ms.map V.int)) := by
            rw [upd_ne (Ne.symm ndl)]
            exact s24 _ _ hL
          refine ⟨l, _, _, rfl, rfl, hL4, small1000 (by rw [List.length_map, FIi.ml]; omega), ?_⟩
          refine ⟨_, ms ++ [(xs.length : Int)], _, _, _, rfl, ((s2.trans s24).upd_free hdn).upd_free hlH, by rw [upd_ne ndl, upd_same]; rfl, ?_, by rw [upd_same, List.map_append]; rfl, FIi.new (b := mq) hno⟩
          have tt : ∀ c' ys', H4 c' = some (.tup ys') → (upd (upd H4 dn (PD P w dn (xs ++ [(mark rs ns i, mq, V.int xs.length)]))) l (.lst (ms.map V.int ++ [V.int xs.length]))) c' = some (.tup ys') := fun c' ys' ec => by
            rw [upd_ne (ne_of ec (s24 _ _ hL) (fun z => nomatch z)), upd_ne (ne_of ec (s24 _ _ hD) (fun z => nomatch z))]
            exact ec
          intro x hx
          rcases List.mem_append.mp hx with hx | hx
          · exact (hPK4 x hx).same tt
          · rw [List.mem_singleton] at hx
            subst hx
            exact kP.same tt
    · rintro σ H2 ⟨xs, ms, v4, v5, v6, rfl, s2, hD, hPK, hL, FIi⟩
      rw [hql] at FIi
      exact ⟨_, rfl, k l ms H2 s2 hlH hL FIi.fine⟩
end
end K23
namespace K23
open PySem L2 K20 K21 K60

theorem atI_last {xs : List V} {x : V} (h : xs[xs.length - 1]? = some x) : atI xs (-1) = some x := by
  have hl := (List.getElem?_eq_some_iff.mp h).1
  unfold atI ixN
  rw [if_neg (by omega), if_pos (by omega)]
  rw [show (-1 + (xs.length : Int)).toNat = xs.length - 1 by omega]
  exact h
theorem call_setNP {X : Cx} (P : Program) (w : World) (hP : X.prog = P) (hw : X.w = w) (hc : X.calm = true) : CallR X (.type "set") (fun xs H Q => ∃ p vs ns, xs = [.ref p] ∧ SqL X.K H p vs ∧ Nums vs ns ∧ ns.length ≤ 1000 ∧ ∀ a, H a = none → Q (.ref a) (upd H a (NS P w a (inI ns) (manyI ns)))) := by
  subst hP hw
  exact call_setN hc
theorem call_lenNSP {X : Cx} (P : Program) (w : World) (hP : X.prog = P) (hw : X.w = w) : CallR X (.builtin "len") (fun xs H Q => ∃ a S n, xs = [V.ref a] ∧ H a = some (NS P w a S n) ∧ Q (.int n) H) := by
  subst hP hw
  exact call_lenNS

def Uni (ks : List V) : Prop := (∀ x ∈ ks, ∃ b, x = V.bl b) ∨ ∀ x ∈ ks, ∃ i, x = V.int i
theorem ints_uni (ms : List Int) : Uni (ms.map V.int) := .inr fun x hx => by
  obtain ⟨i, _, e⟩ := List.mem_map.mp hx
  exact ⟨i, e.symm⟩

def Lvs (H : Hp) (rs : Rms) (many : Int) (cs : List Addr) : Prop := ∀ (i : Nat) (c : Addr), cs[i]? = some c → ∃ ks ns, H c = some (.lst ks) ∧ Nums ks ns ∧ Lev rs many i ns ∧ Uni ks
theorem Lvs.same {H H' : Hp} {rs : Rms} {many : Int} {cs : List Addr} (h : Lvs H rs many cs) (s : Same H H') : Lvs H' rs many cs := fun i c e => by
  obtain ⟨ks, ns, h1, h2, h3⟩ := h i c e
  exact ⟨ks, ns, s _ _ h1, h2, h3⟩
def spKl : Sp := fun vs H Q _ => ∃ (p : Addr) (qs : List Addr) (many : Int) (rs : Rms), vs = [.ref p] ∧ H p = some (.tup (qs.map V.ref)) ∧ RowsAt H qs rs ∧ Good many rs ∧
  ∀ (l : Addr) (cs : List Addr) (H' : Hp), Same H H' → H' l = some (.lst (cs.map V.ref)) → Lvs H' rs many cs → (0 < cs.length ∧ cs.length ≤ rs.length) → (∀ x y, Inr rs x → Inr rs y → Eqk rs many (cs.length - 1) x y → Eqk rs many (cs.length - 1 + 1) x y) → Q (.ref l) H'
theorem truths_lev {rs : Rms} {many : Int} : Lev rs many 0 (rs.map fun r => if r.1 then (1 : Int) else 0) := by
  refine ⟨List.length_map _, fun x y hx hy => ?_⟩
  rw [eqk_zero]
  obtain ⟨r, er⟩ := some_at rs x hx.1 hx.2
  obtain ⟨r', er'⟩ := some_at rs y hy.1 hy.2
  unfold kn gd
  rw [getD_of (x := if r.1 then (1 : Int) else 0) (by rw [List.getElem?_map, er]; rfl), getD_of (x := if r'.1 then (1 : Int) else 0) (by rw [List.getElem?_map, er']; rfl), getD_of er, getD_of er']
  cases r.1 <;> cases r'.1 <;> decide
section
variable {P : Program} {w : World} {K : PySem.W.Frag} {mg : Str → Option Value} {base : Heap}
theorem scKl : FnScope ["rooms", "found", "kinds"] ["rooms"] (defScope sKl) := ⟨rfl, rfl, rfl, by decide +kernel, rfl, by decide +kernel, by decide +kernel⟩
def scopeKl : Scope := { kind := .function, names := [(".0", .local), ("room", .local)], isGenerator := false, isCoroutine := false, more := [] }
theorem scKl1 : BlkScope (defScope sKl) ["rooms", "found", "kinds"] ["room"] [] [] scopeKl := ⟨rfl, by decide +kernel, by decide +kernel, by decide +kernel, rfl, by decide +kernel, by decide +kernel⟩
theorem ok_kl {f fF : Addr} {fd fdF : FuncData} (F : Fun K "kinds_by_length" "kinds_by_length" sKl f fd) (T : Txt mg) (FF : Fun K "finer_kinds" "finer_kinds" sFk fF fdF) (bF : Binds K fdF ["rooms", "kinds"] []) (gF : mg "finer_kinds" = some (.ref fF)) : FnOk P w K mg base CX0 2 f fd ["rooms"] spKl := by
  have GF : FnOk P w K mg base CX0 1 fF fdF ["rooms", "kinds"] spFk := ok_fk FF T
  refine F.ok scKl (fun vs H Q E h => ?_) (fun cdv A outer s H vs Q E hr h => ?_)
  · obtain ⟨p, qs, many, rs, rfl, _⟩ := h
    rfl
  · obtain ⟨p, qs, many, rs, rfl, hp, hR, G, k⟩ := h
    have gle := G.le
    refine ⟨_, pss_cons (ps_set (i := 1) scKl.nd rfl (Or.inl rfl) (pe_lst (pa_cons (pe_lc scKl1 rfl rfl rfl (pi_tup (pv 0)) (fun fp C s1 H1 => pg_name (i := 0) scKl1.nd rfl (Or.inl rfl)) (fun fp C s1 H1 => pts_nil) (fun fp C s1 H1 => pe_ix (r := rIxT K) ix_tup (pv 0) pe_int (fun _ _ => rfl))) pa_nil)))
      (pss_cons (ps_set (i := 2) scKl.nd rfl (Or.inl rfl) (pe_call GF hr rfl gF FF.kp bF .nil pass0 (pa_cons (pv 0) (pa_cons (pe_ix ix_list (pv 1) pe_int (fun _ _ => rfl)) pa_nil))))
      (pss_cons (ps_while PassesOwn.never (pt_cmpR op_gt (pe_callB (call_lenNSP P w rfl rfl) (by rfl) T.len PySem.boot_len (pa_cons (pe_callTy (call_setNP P w rfl rfl rfl) (by rfl) T.set PyProof.Rows.boot_set (pa_cons (pv 2) pa_nil)) pa_nil))
          (pe_callB (call_lenNSP P w rfl rfl) (by rfl) T.len PySem.boot_len (pa_cons (pe_callTy (call_setNP P w rfl rfl rfl) (by rfl) T.set PyProof.Rows.boot_set (pa_cons (pe_ix ix_list (pv 1) (pe_un un_neg pe_int) (fun _ _ => rfl)) pa_nil)) pa_nil)) (nomark _))
        (pss_cons (ps_expr (pe_bm PySem.F.plainAttrs_list PySem.F.slot_list_append PySem.F.type_list_append mt_append (pv 1) (pa_cons (pv 2) pa_nil)))
        (pss_one (ps_set (i := 2) scKl.nd rfl (Or.inl rfl) (pe_call GF hr rfl gF FF.kp bF .nil pass0 (pa_cons (pv 0) (pa_cons (pv 2) pa_nil)))))))
      (pss_one (ps_ret (pv 1))))), ?_⟩
    -- the truths
    have hql : (qs.map V.ref).length = rs.length := by rw [List.length_map]; exact hR.1
    refine ⟨_, rfl, p, rfl, ⟨_, SqT.of hp⟩, fun D hD => ?_⟩
    refine lc_tup (K := K) (a := p) (xs := qs.map V.ref) (fun j ys H3 => Same H H3 ∧ H3 D = some (.lst ys) ∧ ys.length = j ∧ Nums ys ((rs.take j).map fun r => if r.1 then (1 : Int) else 0) ∧ ∀ x ∈ ys, ∃ b, x = V.bl b) (Nat.le_of_lt (small1000 (by omega)))
      ⟨(Same.refl H).upd_free hD, upd_same, rfl, rfl, fun x hx => by cases hx⟩ (fun j ys H3 h => Nat.le_of_eq h.2.2.1) (fun j ys H3 h => SqT.of (h.1 _ _ hp)) ?_ ?_
    · rintro j ys H3 x N M hx ⟨u1, u2, u3, u4, u5⟩ hN' hM
      have hj : j < rs.length := by
        have := (List.getElem?_eq_some_iff.mp hx).1
        omega
      obtain ⟨r, er⟩ : ∃ r, rs[j]? = some r := ⟨rs[j], by simp [hj]⟩
      obtain ⟨q, z, e1, e2, e3⟩ := hR.2 j r er
      rw [List.getElem?_map, e1] at hx
      cases hx
      refine ⟨_, rfl, q, _, _, _, rfl, rfl, SqT.of (u1 _ _ e2), rfl, ?_⟩
      refine hN' _ H3 u2 ⟨u1.upd_free hD, upd_same, by rw [List.length_append, List.length_singleton, u3], ?_, fun v hv => ?_⟩
      · rw [List.take_add_one, er, List.map_append]
        exact u4.snoc rfl
      · rcases List.mem_append.mp hv with hv | hv
        · exact u5 v hv
        · exact ⟨_, List.mem_singleton.mp hv⟩
    rintro ks0 H1 ⟨s1, hD1, hl0, hN0, hU0⟩
    rw [hql, List.take_of_length_le (Nat.le_refl _)] at hN0
    have L0 : Lev rs many 0 (rs.map fun r => if r.1 then (1 : Int) else 0) := truths_lev
    refine ⟨(by show 1 ≤ sizeLine; decide), fun l hl => ?_⟩
    have nDl : D ≠ l := ne_of_none hD1 hl
    have hlH : H l = none := s1.free hl
    have s2 : Same H (upd H1 l (.lst [.ref D])) := s1.upd_free hlH
    have hD2 : (upd H1 l (.lst [.ref D])) D = some (.lst ks0) := by rw [upd_ne nDl]; exact hD1
    refine ⟨_, rfl, _, rfl, l, _, _, _, rfl, rfl, SqL.of upd_same, rfl, ?_⟩
    refine ⟨p, D, qs, many, rs, ks0, _, rfl, s2 _ _ hp, hR.same s2, G, hD2, hN0, List.length_map _, fun kr ms H2 s3 hkr hK FN => ?_⟩
    have nkl : l ≠ kr := fun e => by rw [← e, upd_same] at hkr; cases hkr
    -- longer and longer
    refine ⟨fun mm σ H3 => ∃ (cs : List Addr) (kr c : Addr) (ms ns : List Int) (ks : List V), σ = [some (.ref p), some (.ref l), some (.ref kr)] ∧ mm = rs.length + 1 - manyI ns ∧ Same H H3 ∧ H3 l = some (.lst (cs.map V.ref)) ∧ Lvs H3 rs many cs ∧ (∀ (i : Nat) (c : Addr), cs[i]? = some c → c ≠ l) ∧ l ≠ kr ∧
        cs[cs.length - 1]? = some c ∧ cs.length ≤ manyI ns ∧ H3 c = some (.lst ks) ∧ Nums ks ns ∧ Lev rs many (cs.length - 1) ns ∧ H3 kr = some (.lst (ms.map V.int)) ∧ Lev rs many (cs.length - 1 + 1) ms,
      ⟨_, [D], kr, D, ms, _, ks0, rfl, rfl, s2.trans s3, s3 _ _ upd_same, fun i c e => ?_, fun i c e => ?_, nkl, rfl, ?_, s3 _ _ hD2, hN0, L0, hK, FN.lev G L0⟩, ?_⟩
    · cases i with
      | zero => cases e; exact ⟨ks0, _, s3 _ _ hD2, hN0, L0, .inl hU0⟩
      | succ i => simp at e
    · cases i with
      | zero => cases e; exact nDl
      | succ i => simp at e
    · show 1 ≤ _
      obtain ⟨la, _, ma, ea⟩ := many_spec (rs.map fun r => if r.1 then (1 : Int) else 0)
      rw [ea]
      have hp0 := G.pos
      obtain ⟨r, er⟩ : ∃ r, rs[0]? = some r := ⟨rs[0], by simp [hp0]⟩
      exact List.length_pos_of_mem ((ma (if r.1 then (1 : Int) else 0)).mpr (List.mem_of_getElem? (i := 0) (by rw [List.getElem?_map, er]; rfl)))
    rintro mm σ H3 ⟨cs, kr, c, ms, ns, ks, rfl, rfl, t3, hL, LV, nl, nk, hc, cl0, hC, hN, Lc, hK, Lm⟩
    have nlen := Lc.len
    have mlen := Lm.len
    have mle := many_le ns
    have cpos : 0 < cs.length := by have := (List.getElem?_eq_some_iff.mp hc).1; omega
    refine ⟨_, rfl, kr, _, ms, rfl, SqL.of hK, nums_ints ms, by omega, fun a1 h1 => ?_⟩
    have w1 : Same H3 (upd H3 a1 (NS P w a1 (inI ms) (manyI ms))) := (Same.refl H3).upd_free h1
    refine ⟨a1, _, _, rfl, upd_same, _, rfl, _, rfl, l, _, _, _, rfl, rfl, SqL.of (w1 _ _ hL), atI_last (by rw [List.length_map, List.getElem?_map, hc]; rfl), c, ks, ns, rfl, SqL.of (w1 _ _ hC), hN, by omega, fun a2 h2 => ?_⟩
    have w2 : Same H3 (upd (upd H3 a1 (NS P w a1 (inI ms) (manyI ms))) a2 (NS P w a2 (inI ns) (manyI ns))) := w1.upd_free (w1.free h2)
    refine ⟨a2, _, _, rfl, upd_same, _, _, rfl, rfl, _, rfl, ?_⟩
    generalize hH4 : upd (upd H3 a1 (NS P w a1 (inI ms) (manyI ms))) a2 (NS P w a2 (inI ns) (manyI ns)) = H4 at w2
    refine ite2 (fun hgt => ?_) (fun hle => ?_)
    · have hgt' : manyI ns < manyI ms := by have := of_decide_eq_true hgt; omega
      refine ⟨fun σ' H' => ∃ m', m' < rs.length + 1 - manyI ns ∧ ∃ (cs : List Addr) (kr c : Addr) (ms ns : List Int) (ks : List V), σ' = [some (.ref p), some (.ref l), some (.ref kr)] ∧ m' = rs.length + 1 - manyI ns ∧ Same H H' ∧ H' l = some (.lst (cs.map V.ref)) ∧ Lvs H' rs many cs ∧ (∀ (i : Nat) (c : Addr), cs[i]? = some c → c ≠ l) ∧ l ≠ kr ∧
        cs[cs.length - 1]? = some c ∧ cs.length ≤ manyI ns ∧ H' c = some (.lst ks) ∧ Nums ks ns ∧ Lev rs many (cs.length - 1) ns ∧ H' kr = some (.lst (ms.map V.int)) ∧ Lev rs many (cs.length - 1 + 1) ms, fun σ' H' z => z, ?_⟩
      refine ⟨_, rfl, .inl ⟨rfl, _, SqL.of (w2 _ _ hL)⟩, _, rfl, l, _, _, rfl, rfl, w2 _ _ hL, small1000 (by rw [List.length_map]; omega), ?_⟩
      generalize hH5 : upd H4 l (.lst (cs.map V.ref ++ [.ref kr])) = H5
      have t5 : Same H H5 := by rw [← hH5]; exact (t3.trans w2).upd_free hlH
      have hL5 : H5 l = some (.lst ((cs ++ [kr]).map V.ref)) := by rw [← hH5, upd_same, List.map_append]; rfl
      have hK5 : H5 kr = some (.lst (ms.map V.int)) := by rw [← hH5, upd_ne (Ne.symm nk)]; exact w2 _ _ hK
      have mle2 := many_le ms
      refine ⟨_, rfl, _, rfl, p, kr, qs, many, rs, _, ms, rfl, t5 _ _ hp, hR.same t5, G, hK5, nums_ints ms, mlen, fun kr' ms' H6 s6 hkr' hK' FN' => ?_⟩
      have el : (cs ++ [kr]).length - 1 = cs.length := by rw [List.length_append, List.length_singleton]; omega
      have el2 : cs.length - 1 + 1 = cs.length := by omega
      rw [el2] at Lm
      refine ⟨rs.length + 1 - manyI ms, by omega, cs ++ [kr], kr', kr, ms', ms, _, rfl, rfl, t5.trans s6, s6 _ _ hL5, fun i c' e => ?_, fun i c' e => ?_, (fun e => by rw [← e, hL5] at hkr'; cases hkr'), ?_, by rw [List.length_append, List.length_singleton]; omega, s6 _ _ hK5, nums_ints ms, by rw [el]; exact Lm, hK', by rw [el]; exact FN'.lev G Lm⟩
      · by_cases hi : i < cs.length
        · rw [List.getElem?_append_left hi] at e
          obtain ⟨ks', ns', g1, g2, g3⟩ := LV i c' e
          refine ⟨ks', ns', s6 _ _ ?_, g2, g3⟩
          rw [← hH5, upd_ne (nl i c' e)]
          exact w2 _ _ g1
        · have hi2 := (List.getElem?_eq_some_iff.mp e).1
          rw [List.length_append, List.length_singleton] at hi2
          have ei : i = cs.length := by omega
          subst ei
          rw [List.getElem?_append_right (Nat.le_refl _), Nat.sub_self] at e
          cases e
          exact ⟨_, ms, s6 _ _ hK5, nums_ints ms, Lm, ints_uni ms⟩
      · by_cases hi : i < cs.length
        · rw [List.getElem?_append_left hi] at e
          exact nl i c' e
        · have hi2 := (List.getElem?_eq_some_iff.mp e).1
          rw [List.length_append, List.length_singleton] at hi2
          have ei : i = cs.length := by omega
          subst ei
          rw [List.getElem?_append_right (Nat.le_refl _), Nat.sub_self] at e
          cases e
          exact Ne.symm nk
      · rw [el, List.getElem?_append_right (Nat.le_refl _), Nat.sub_self]
        rfl
    · have hle' : manyI ms ≤ manyI ns := by
        have : ¬ (manyI ns : Int) < manyI ms := fun z => hle (decide_eq_true z)
        omega
      refine ⟨_, rfl, k l cs H4 (t3.trans w2) (w2 _ _ hL) (LV.same w2) ⟨cpos, by omega⟩ fun x y hx hy e => ?_⟩
      exact stays Lc Lm hle' hx hy e
end
end K23
namespace K23
open PySem L2 K20 K21 K60

section
variable {X : Cx} {o i value : Expr} {pos pos' : Pos} {td ty tv : TE}
theorem pe_ngetP (P : Program) (w : World) (hP : X.prog = P) (hw : X.w = w) (ho : PE X o td) (hi : PE X i ty) (hs : NoSl i) : PE X (.Subscript o i pos) (tNGet P w td ty) := by
  subst hP hw
  exact pe_nget ho hi hs
theorem pc_nnotinP (P : Program) (w : World) (hP : X.prog = P) (hw : X.w = w) (hi : PE X i ty) (ho : PE X o td) : PC X .NotIn i o (tNNotIn P w ty td) := by
  subst hP hw
  exact pc_nnotin hi ho
theorem ps_nputP (P : Program) (w : World) (hP : X.prog = P) (hw : X.w = w) (ho : PE X o td) (hi : PE X i ty) (hv : PE X value tv) (hs : swapsWith value (some (.Subscript o i pos')) pos.line X.env = pure false) : PS X (.Assign [.Subscript o i pos'] value pos) (sNPut P w td ty tv) := by
  subst hP hw
  exact ps_nput ho hi hv hs
theorem pe_ndispP (P : Program) (w : World) (hP : X.prog = P) (hw : X.w = w) {ke ve : Expr} (h : PE X ke ty) (hv : PE X ve tv) : PE X (.Dict [some ke] [ve] pos) (tNDisp P w ty tv) := by
  subst hP hw
  exact pe_ndisp h hv
end

def kvF : Nat → List Int → List (Int × V)
  | _, [] => []
  | n, k :: l => (k, V.int (n : Int)) :: kvF (n + 1) l
theorem kvF_len : ∀ (l : List Int) (n : Nat), (kvF n l).length = l.length
  | [], _ => rfl
  | k :: l, n => by simp only [kvF, List.length_cons, kvF_len l (n + 1)]
theorem kvF_none (k : Int) : ∀ (l : List Int) (n : Nat), k ∉ l → valV (kvF n l) k = none
  | [], _, _ => rfl
  | x :: l, n, h => by
    rw [List.mem_cons, not_or] at h
    show valV ((x, V.int (n : Int)) :: kvF (n + 1) l) k = none
    rw [valV_neg (fun z => h.1 z.symm)]
    exact kvF_none k l (n + 1) h.2
theorem kvF_some (k : Int) : ∀ (l : List Int) (n : Nat), k ∈ l → valV (kvF n l) k = some (.int ((n + l.idxOf k : Nat) : Int))
  | [], _, h => by cases h
  | x :: l, n, h => by
    show valV ((x, V.int (n : Int)) :: kvF (n + 1) l) k = _
    by_cases e : x = k
    · rw [valV_pos e, e]
      simp
    · have hk : k ∈ l := (List.mem_cons.mp h).resolve_left fun z => e z.symm
      rw [valV_neg e, kvF_some k l (n + 1) hk, List.idxOf_cons]
      have : (x == k) = false := by simpa using e
      rw [this]
      simp only [cond_false]
      rw [show n + 1 + l.idxOf k = n + (l.idxOf k + 1) by omega]
theorem kvF_snoc (x : Int) : ∀ (l : List Int) (n : Nat), kvF n (l ++ [x]) = kvF n l ++ [(x, .int ((n + l.length : Nat) : Int))]
  | [], n => rfl
  | y :: l, n => by
    show (y, V.int (n : Int)) :: kvF (n + 1) (l ++ [x]) = _
    rw [kvF_snoc x l (n + 1)]
    simp only [kvF, List.cons_append, List.length_cons]
    rw [show n + 1 + l.length = n + (l.length + 1) by omega]
theorem rows_snoc {H : Hp} {qs : List Addr} {rs : Rms} {r : Bool × List Int} {q z : Addr} (h : RowsAt H qs rs) (h1 : H q = some (.tup [.bl r.1, .ref z])) (h2 : H z = some (.tup (r.2.map V.int))) : RowsAt H (qs ++ [q]) (rs ++ [r]) := by
  refine ⟨by rw [List.length_append, List.length_append, h.1]; rfl, fun i r' er => ?_⟩
  by_cases hlt : i < rs.length
  · rw [List.getElem?_append_left hlt] at er
    obtain ⟨q', z', g1, g2, g3⟩ := h.2 i r' er
    exact ⟨q', z', by rw [List.getElem?_append_left (by rw [h.1]; exact hlt)]; exact g1, g2, g3⟩
  · have hi2 := (List.getElem?_eq_some_iff.mp er).1
    rw [List.length_append, List.length_singleton] at hi2
    have ei : i = rs.length := by omega
    subst ei
    rw [List.getElem?_append_right (Nat.le_refl _), Nat.sub_self] at er
    cases er
    refine ⟨q, z, ?_, h1, h2⟩
    rw [List.getElem?_append_right (by rw [h.1]; exact Nat.le_refl _), h.1, Nat.sub_self]
    rfl
theorem rows_tsame {H H' : Hp} {qs : List Addr} {rs : Rms} (h : RowsAt H qs rs) (s : TSame H H') : RowsAt H' qs rs := ⟨h.1, fun i r e => by
  obtain ⟨q, z, h1, h2, h3⟩ := h.2 i r e
  exact ⟨q, z, h1, s _ _ h2, s _ _ h3⟩⟩
def spMr (P : Program) (w : World) : Sp := fun vs H Q _ => ∃ (q c dn z : Addr) (b : Bool) (ts : List Int) (ks : List V) (ns : List Int) (kvs : List (Int × V)) (g : Int → Int), vs = [.ref q, .ref c, .ref dn] ∧ H q = some (.tup [.bl b, .ref z]) ∧ H z = some (.tup (ts.map V.int)) ∧ H c = some (.lst ks) ∧ Nums ks ns ∧
  H dn = some (ND P w dn kvs) ∧ ts.length ≤ 8 ∧ (∀ t ∈ ts, 0 ≤ t ∧ t < (ns.length : Int) ∧ valV kvs (kn ns t) = some (.int (g t))) ∧
  ∀ (m zt : Addr) (H' : Hp), Same H H' → H' m = some (.tup [.bl b, .ref zt]) → H' zt = some (.tup ((ts.map g).map V.int)) → Q (.ref m) H'
def spLs : Sp := fun vs H Q _ => ∃ (a : Addr) (many : Int) (rs : Rms), vs = [.ref a] ∧ MAt H a many rs ∧ Good many rs ∧
  ∀ (m : Addr) (ns ch : List Int) (H' : Hp), Same H H' → MAt H' m many (minM rs ns ch) → Cls rs many ns → LB rs many ns ch ch.length → Q (.ref m) H'
section
variable {P : Program} {w : World} {K : PySem.W.Frag} {mg : Str → Option Value} {base : Heap}
theorem scMr : FnScope ["room", "kinds", "numbers"] ["room", "kinds", "numbers"] (defScope sMr) := ⟨rfl, rfl, rfl, by decide +kernel, rfl, by decide +kernel, by decide +kernel⟩
def scopeMr : Scope := { kind := .function, names := [(".0", .local), ("there", .local), ("kinds", .free), ("numbers", .free)], isGenerator := false, isCoroutine := false, more := [] }
theorem scMr1 : BlkScope (defScope sMr) ["room", "kinds", "numbers"] ["there"] ["kinds", "numbers"] [1, 2] scopeMr := ⟨rfl, by decide +kernel, by decide +kernel, by decide +kernel, rfl, by decide +kernel, by decide +kernel⟩
theorem ok_mr {f : Addr} {fd : FuncData} (F : Fun K "merged_room" "merged_room" sMr f fd) (T : Txt mg) : FnOk P w K mg base CX0 1 f fd ["room", "kinds", "numbers"] (spMr P w) := by
  refine F.ok scMr (fun vs H Q E h => ?_) (fun cdv A outer s H vs Q E hr h => ?_)
  · obtain ⟨q, c, dn, z, b, ts, ks, ns, kvs, g, rfl, _⟩ := h
    rfl
  · obtain ⟨q, c, dn, z, b, ts, ks, ns, kvs, g, rfl, hq, hz, hc, hN, hdn, h8, hv, k⟩ := h
    refine ⟨_, pss_one (ps_ret (pe_tup (pa_cons (pe_ix ix_tup (pv 0) pe_int (fun _ _ => rfl)) (pa_cons (pe_callTy call_tuple_of (by rfl) T.tuple PyProof.Rows.boot_tuple (pa_cons
      (pe_lc scMr1 rfl rfl rfl (pi_tup (pe_ix ix_tup (pv 0) pe_int (fun _ _ => rfl))) (fun fp C s1 H1 => pg_name (i := 0) scMr1.nd rfl (Or.inl rfl)) (fun fp C s1 H1 => pts_nil) (fun fp C s1 H1 => pe_ngetP P w rfl rfl (pv 2) (pe_ix (r := rIxL K) ix_list (pv 1) (pv 0) (fun _ _ => rfl)) (fun _ _ => rfl))) pa_nil)) pa_nil)))), ?_⟩
    refine ⟨_, rfl, q, _, _, _, rfl, rfl, SqT.of hq, rfl, _, rfl, q, _, _, _, rfl, rfl, SqT.of hq, rfl, z, rfl, ⟨_, SqT.of hz⟩, fun D hD => ?_⟩
    refine lc_tup (K := K) (a := z) (xs := ts.map V.int) (fun j ys H3 => Same H H3 ∧ H3 D = some (.lst ys) ∧ ys.length = j ∧ ys = ((ts.take j).map g).map V.int) (Nat.le_of_lt (small1000 (by rw [List.length_map]; omega)))
      ⟨(Same.refl H).upd_free hD, upd_same, rfl, rfl⟩ (fun j ys H3 h => Nat.le_of_eq h.2.2.1) (fun j ys H3 h => SqT.of (h.1 _ _ hz)) ?_ ?_
    · rintro j ys H3 x N M hx ⟨u1, u2, u3, u4⟩ hN' hM
      rw [List.getElem?_map] at hx
      cases et : ts[j]? with
      | none => rw [et] at hx; cases hx
      | some t =>
        rw [et] at hx
        cases hx
        have ht := hv t (List.mem_of_getElem? et)
        obtain ⟨nt, ent⟩ := some_at ns t ht.1 ht.2.1
        obtain ⟨kt, ekt, nkt⟩ := hN.get ent
        have e2 : kn ns t = nt := getD_of ent
        refine ⟨_, rfl, _, rfl, _, rfl, c, _, _, _, rfl, rfl, SqL.of (u1 _ _ hc), atI_int ht.1 ekt, dn, kvs, nt, _, rfl, u1 _ _ hdn, nkt, by rw [← e2]; exact ht.2.2, ?_⟩
        refine hN' _ H3 u2 ⟨u1.upd_free hD, upd_same, by rw [List.length_append, List.length_singleton, u3], ?_⟩
        rw [List.take_add_one, et, List.map_append, List.map_append, u4]
        rfl
    · rintro ys H3 ⟨u1, u2, u3, u4⟩
      rw [List.length_map, List.take_of_length_le (Nat.le_refl _)] at u4
      refine ⟨D, _, rfl, .inl ⟨SqL.of u2, fun zt hzt => ?_⟩⟩
      refine ⟨(by show 2 ≤ sizeLine; decide), fun m hm => ?_⟩
      have nzm : zt ≠ m := fun e => by rw [e, upd_same] at hm; cases hm
      have hm3 : H3 m = none := by rw [upd_ne (Ne.symm nzm)] at hm; exact hm
      exact k m zt _ (u1.trans (((Same.refl H3).upd_free hzt).upd_free hm3)) upd_same (by rw [upd_ne nzm, upd_same, u4])
theorem scLs : FnScope ["machine", "rooms", "kinds", "chosen", "numbers", "done", "here", "there"] ["machine"] (defScope sLs) := ⟨rfl, rfl, rfl, by decide +kernel, rfl, by decide +kernel, by decide +kernel⟩
def scopeLs : Scope := { kind := .function, names := [(".0", .local), ("room", .local), ("merged_room", .globalImplicit), ("kinds", .free), ("numbers", .free), ("rooms", .free)], isGenerator := false, isCoroutine := false, more := [] }
theorem scLs1 : BlkScope (defScope sLs) ["machine", "rooms", "kinds", "chosen", "numbers", "done", "here", "there"] ["room"] ["kinds", "numbers", "rooms"] [2, 4, 1] scopeLs := ⟨rfl, by decide +kernel, by decide +kernel, by decide +kernel, rfl, by decide +kernel, by decide +kernel⟩
theorem ok_ls {f fF fK fM : Addr} {fd fdF fdK fdM : FuncData} (F : Fun K "least" "least" sLs f fd) (T : Txt mg)
    (FF : Fun K "finer_kinds" "finer_kinds" sFk fF fdF) (bF : Binds K fdF ["rooms", "kinds"] []) (gF : mg "finer_kinds" = some (.ref fF))
    (FK : Fun K "kinds_by_length" "kinds_by_length" sKl fK fdK) (bK : Binds K fdK ["rooms"] []) (gK : mg "kinds_by_length" = some (.ref fK))
    (FM : Fun K "merged_room" "merged_room" sMr fM fdM) (bM : Binds K fdM ["room", "kinds", "numbers"] []) (gM : mg "merged_room" = some (.ref fM)) : FnOk P w K mg base CX0 3 f fd ["machine"] spLs := by
  have GK : FnOk P w K mg base CX0 2 fK fdK ["rooms"] spKl := ok_kl FK T FF bF gF
  have GM : FnOk P w K mg base CX0 1 fM fdM ["room", "kinds", "numbers"] (spMr P w) := ok_mr FM T
  refine F.ok scLs (fun vs H Q E h => ?_) (fun cdv A outer s H vs Q E hr h => ?_)
  · obtain ⟨a, many, rs, rfl, _⟩ := h
    rfl
  · obtain ⟨a, many, rs, rfl, M, G, k⟩ := h
    obtain ⟨p, qs, m1, m2, m3⟩ := id M
    have gle := G.le
    have gmn := G.mn
    have hr1 : Room 1 _ := hr.mono (by decide)
    refine ⟨_, pss_cons (ps_set (i := 1) scLs.nd rfl (Or.inr rfl) (pe_ix ix_tup (pv 0) pe_int (fun _ _ => rfl)))
      (pss_cons (ps_set (i := 2) scLs.nd rfl (Or.inr rfl) (pe_ix ix_list (pe_call GK hr rfl gK FK.kp bK .nil pass0 (pa_cons (pv 1) pa_nil)) (pe_un un_neg pe_int) (fun _ _ => rfl)))
      (pss_cons (ps_set (i := 3) scLs.nd rfl (Or.inl rfl) (pe_lst (pa_cons pe_int pa_nil)))
      (pss_cons (ps_set (i := 4) scLs.nd rfl (Or.inr rfl) (pe_ndispP P w rfl rfl (pe_ix ix_list (pv 2) pe_int (fun _ _ => rfl)) pe_int))
      (pss_cons (ps_set (i := 5) scLs.nd rfl (Or.inl rfl) pe_int)
      (pss_cons (ps_while PassesOwn.never (pt_cmpR op_lt (pv 5) (pe_callB call_len_seq (by rfl) T.len PySem.boot_len (pa_cons (pv 3) pa_nil)) (nomark _))
        (pss_cons (ps_set (i := 6) scLs.nd rfl (Or.inl rfl) (pe_ix ix_list (pv 3) (pv 5) (fun _ _ => rfl)))
        (pss_cons (ps_for PassesOwn.never rfl (pi_tup (pe_ix ix_tup (pe_ix ix_tup (pv 1) (pv 6) (fun _ _ => rfl)) pe_int (fun _ _ => rfl))) (pg_name (i := 7) scLs.nd rfl (Or.inl rfl))
          (pss_one (ps_if (pt_cmp (pc_nnotinP P w rfl rfl (pe_ix ix_list (pv 2) (pv 7) (fun _ _ => rfl)) (pv 4)))
            (pss_cons (ps_nputP P w rfl rfl (pv 4) (pe_ix ix_list (pv 2) (pv 7) (fun _ _ => rfl)) (pe_callB call_len_seq (by rfl) T.len PySem.boot_len (pa_cons (pv 3) pa_nil)) rfl)
            (pss_one (ps_expr (pe_bm PySem.F.plainAttrs_list PySem.F.slot_list_append PySem.F.type_list_append mt_append (pv 3) (pa_cons (pv 7) pa_nil)))))
            pss_nil)))
        (pss_one (ps_set (i := 5) scLs.nd rfl (Or.inl rfl) (pe_op op_add (pv 5) pe_int))))))
      (pss_one (ps_ret (pe_tup (pa_cons (pe_ix ix_tup (pv 0) pe_int (fun _ _ => rfl)) (pa_cons (pe_callTy call_tuple_of (by rfl) T.tuple PyProof.Rows.boot_tuple (pa_cons
        (pe_lc scLs1 rfl rfl rfl (pi_list (pv 3)) (fun fp C s1 H1 => pg_name (i := 0) scLs1.nd rfl (Or.inl rfl)) (fun fp C s1 H1 => pts_nil)
          (fun fp C s1 H1 => pe_call GM hr1 rfl gM FM.kp bM .nil pass0 (pa_cons (pe_ix (r := rIxT K) ix_tup (pv 3) (pv 0) (fun _ _ => rfl)) (pa_cons (pv 1) (pa_cons (pv 2) pa_nil))))) pa_nil)) pa_nil)))))))))), ?_⟩
    refine ⟨_, rfl, a, _, _, _, rfl, rfl, SqT.of m1, rfl, ?_⟩
    refine ⟨_, rfl, p, qs, many, rs, rfl, m2, m3, G, fun lv cs H1 s1 hLv LW ⟨cpos, _⟩ st => ?_⟩
    obtain ⟨c, ec⟩ : ∃ c, cs[cs.length - 1]? = some c := ⟨cs[cs.length - 1], by simp [cpos]⟩
    obtain ⟨ks, ns, hc, hN, Lc, _⟩ := LW _ c ec
    have C : Cls rs many ns := Lc.cls G st
    have nlen := C.len
    refine ⟨_, rfl, lv, _, _, _, rfl, rfl, SqL.of hLv, atI_last (by rw [List.length_map, List.getElem?_map, ec]; rfl), ?_⟩
    refine ⟨(by show 1 ≤ sizeLine; decide), fun lc hlc => ?_⟩
    intro dn hdn
    have nld : lc ≠ dn := fun e => by rw [← e, upd_same] at hdn; cases hdn
    have hdn1 : H1 dn = none := by rw [upd_ne (Ne.symm nld)] at hdn; exact hdn
    have s2 : Same H1 (upd (upd H1 lc (.lst [.int 0])) dn (ND P w dn [])) := ((Same.refl H1).upd_free hlc).upd_free hdn1
    have hp0 := G.pos
    obtain ⟨n0, en0⟩ := some_at ns 0 (Int.le_refl 0) (by omega)
    obtain ⟨k0, ek0, nk0⟩ := hN.get en0
    refine ⟨_, rfl, c, _, _, _, rfl, rfl, SqL.of (s2 _ _ hc), atI_int (Int.le_refl 0) ek0, upd_same, k0, .int 0, n0, rfl, nk0, ?_⟩
    have e0 : kn ns 0 = n0 := getD_of en0
    -- room by room
    have hlcH : H lc = none := s1.free hlc
    have hdnH : H dn = none := s1.free hdn1
    refine ⟨fun mm σ H2 => ∃ (ch : List Int) (d : Nat) (v6 v7 : Option V), σ = [some (.ref a), some (.ref p), some (.ref c), some (.ref lc), some (.ref dn), some (.int (d : Int)), v6, v7] ∧ mm = rs.length + 1 - d ∧ Same H1 H2 ∧ H2 lc = some (.lst (ch.map V.int)) ∧ H2 dn = some (ND P w dn (kvF 0 (cl ns ch))) ∧ LB rs many ns ch d,
      ⟨_, [0], 0, none, none, rfl, rfl, ?_, ?_, ?_, LB.init G⟩, ?_⟩
    · rw [upd_upd]
      exact ((Same.refl H1).upd_free hlc).upd_free hdn1
    · rw [upd_ne nld, upd_ne nld, upd_same]
      rfl
    · rw [upd_same, ← e0]
      rfl
    rintro mm σ H2 ⟨ch, d, v6, v7, rfl, rfl, t2, hL, hD, B⟩
    have hchl := ch_len B.nd B.ok
    have hdl := B.dl
    refine ⟨_, rfl, _, rfl, lc, _, rfl, .inl (SqL.of hL), _, _, rfl, rfl, _, rfl, ?_⟩
    rw [List.length_map]
    refine ite2 (fun hlt => ?_) (fun hge => ?_)
    · have hlt' : d < ch.length := by
        have := of_decide_eq_true hlt
        omega
      obtain ⟨x0, hx0⟩ : ∃ x0, ch[d]? = some x0 := ⟨ch[d], by simp [hlt']⟩
      have ok0 := B.ok x0 (List.mem_of_getElem? hx0)
      refine ⟨fun σ' H' => ∃ m', m' < rs.length + 1 - d ∧ ∃ (ch : List Int) (d : Nat) (v6 v7 : Option V), σ' = [some (.ref a), some (.ref p), some (.ref c), some (.ref lc), some (.ref dn), some (.int (d : Int)), v6, v7] ∧ m' = rs.length + 1 - d ∧ Same H1 H' ∧ H' lc = some (.lst (ch.map V.int)) ∧ H' dn = some (ND P w dn (kvF 0 (cl ns ch))) ∧ LB rs many ns ch d, fun σ' H' z => z, ?_⟩
      obtain ⟨r, er⟩ := some_at rs x0 ok0.1 ok0.2
      obtain ⟨rq, rz, r1, r2, r3⟩ := (m3.same s1).2 _ _ er
      have hrow := G.row r (List.mem_of_getElem? er)
      have enx : nx rs x0 = r.2 := by unfold nx; rw [getD_of er]
      refine ⟨_, rfl, _, rfl, lc, _, _, _, rfl, rfl, SqL.of hL, atI_nat (by rw [List.getElem?_map, hx0]; rfl), ?_⟩
      refine ⟨_, rfl, _, rfl, p, _, _, _, rfl, rfl, SqT.of (t2 _ _ (s1 _ _ m2)), atI_int ok0.1 (by rw [List.getElem?_map, r1]; rfl), rq, _, _, _, rfl, rfl, SqT.of (t2 _ _ r2), rfl, rz, rfl, ⟨_, SqT.of (t2 _ _ r3)⟩, ?_⟩
      refine for_tup (K := K) (a := rz) (xs := r.2.map V.int) (fun j σ H3 => ∃ (ch' : List Int) (v7 : Option V), σ = [some (.ref a), some (.ref p), some (.ref c), some (.ref lc), some (.ref dn), some (.int (d : Int)), some (.int x0), v7] ∧ Same H1 H3 ∧ H3 lc = some (.lst (ch'.map V.int)) ∧ H3 dn = some (ND P w dn (kvF 0 (cl ns ch'))) ∧ LV rs many ns ch' d x0 j)
        ⟨ch, v7, rfl, t2, hL, hD, B.start hx0⟩ (fun j σ H3 _ ⟨_, _, _, t3, _⟩ => SqT.of (t3 _ _ r3)) ?_ ?_
      · rintro j x σ H3 hx ⟨ch', v7, rfl, t3, hL3, hD3, VI⟩
        rw [List.getElem?_map] at hx
        cases et : r.2[j]? with
        | none => rw [et] at hx; cases hx
        | some t =>
          rw [et] at hx
          cases hx
          have ht := hrow.2 t (List.mem_of_getElem? et)
          obtain ⟨nt, ent⟩ := some_at ns t ht.1 (by rw [nlen]; exact ht.2)
          obtain ⟨kt, ekt, nkt⟩ := hN.get ent
          have ekn : kn ns t = nt := getD_of ent
          have hch' := ch_len VI.nd VI.ok
          refine ⟨_, rfl, _, rfl, c, _, _, _, rfl, rfl, SqL.of (t3 _ _ hc), atI_int ht.1 ekt, _, rfl, dn, _, nt, rfl, hD3, nkt, _, rfl, ?_⟩
          by_cases hm : kn ns t ∈ cl ns ch'
          · rw [show valV (kvF 0 (cl ns ch')) nt = some (.int ((0 + (cl ns ch').idxOf (kn ns t) : Nat) : Int)) by rw [← ekn]; exact kvF_some _ _ 0 hm]
            refine iteF ?_
            exact ⟨ch', _, rfl, t3, hL3, hD3, VI.old (by rw [enx]; exact et) hm⟩
          · have hv : valV (kvF 0 (cl ns ch')) nt = none := by rw [← ekn]; exact kvF_none _ _ 0 hm
            rw [hv]
            refine iteT ?_
            refine ⟨_, rfl, lc, _, rfl, .inl (SqL.of hL3), _, rfl, _, rfl, _, rfl, c, _, _, _, rfl, rfl, SqL.of (t3 _ _ hc), atI_int ht.1 ekt, dn, _, nt, rfl, hD3, nkt, small1000 (by rw [kvF_len]; unfold cl; rw [List.length_map]; omega), ?_⟩
            have hL4 : (upd H3 dn (ND P w dn (putK (kvF 0 (cl ns ch')) nt (.int ((ch'.map V.int).length : Int))))) lc = some (.lst (ch'.map V.int)) := by rw [upd_ne nld]; exact hL3
            refine ⟨_, rfl, .inl ⟨rfl, _, SqL.of hL4⟩, _, rfl, lc, _, _, rfl, rfl, hL4, small1000 (by rw [List.length_map]; omega), ?_⟩
            refine ⟨ch' ++ [t], _, rfl, (t3.upd_free hdn1).upd_free hlc, by rw [upd_same, List.map_append]; rfl, ?_, VI.new G (by rw [enx]; exact et) hm⟩
            rw [upd_ne (Ne.symm nld), upd_same, putK_new _ hv]
            have e1 : cl ns (ch' ++ [t]) = cl ns ch' ++ [nt] := by unfold cl; rw [List.map_append, ← ekn]; rfl
            rw [e1, kvF_snoc, List.length_map]
            unfold cl
            rw [List.length_map, Nat.zero_add]
      · rintro σ H3 ⟨ch', v7, rfl, t3, hL3, hD3, VI⟩
        rw [List.length_map] at VI
        refine ⟨_, rfl, _, _, rfl, rfl, ?_⟩
        exact ⟨rs.length + 1 - (d + 1), by omega, ch', d + 1, _, _, rfl, rfl, t3, hL3, hD3, VI.done (by rw [enx]; exact Nat.le_refl _)⟩
    · have hge' : ¬ (d : Int) < (ch.length : Int) := fun z => hge (decide_eq_true z)
      have ed : d = ch.length := by omega
      subst ed
      have tt := s1.trans t2
      refine ⟨_, rfl, a, _, _, _, rfl, rfl, SqT.of (tt _ _ m1), rfl, _, rfl, lc, rfl, ⟨_, SqL.of hL⟩, fun D hD0 => ?_⟩
      refine lc_list (K := K) (a := lc) (xs := ch.map V.int) (fun j ys H3 => ∃ ps : List Addr, ys = ps.map V.ref ∧ Same H2 H3 ∧ H3 D = some (.lst ys) ∧ ys.length = j ∧ RowsAt H3 ps ((ch.take j).map fun c => (gd rs c, (nx rs c).map (ix ns ch)))) (Nat.le_of_lt (small1000 (by rw [List.length_map]; omega)))
        ⟨[], rfl, (Same.refl H2).upd_free hD0, upd_same, rfl, rfl, fun i r e => by simp at e⟩ (fun j ys H3 ⟨_, _, _, _, h, _⟩ => Nat.le_of_eq h) (fun j ys H3 ⟨_, _, h, _⟩ => SqL.of (h _ _ hL)) ?_ ?_
      · rintro j ys H3 x N MM hx ⟨ps, rfl, u1, u2, u3, u4⟩ hN' hM
        rw [List.getElem?_map] at hx
        cases et : ch[j]? with
        | none => rw [et] at hx; cases hx
        | some t =>
          rw [et] at hx
          cases hx
          have hj : j < ch.length := (List.getElem?_eq_some_iff.mp et).1
          have tr := B.ok t (List.mem_of_getElem? et)
          obtain ⟨r, er⟩ := some_at rs t tr.1 tr.2
          have t3 := tt.trans u1
          obtain ⟨rq, rz, r1, r2, r3⟩ := (m3.same t3).2 _ _ er
          have hrow := G.row r (List.mem_of_getElem? er)
          have enx : nx rs t = r.2 := by unfold nx; rw [getD_of er]
          have egd : gd rs t = r.1 := by unfold gd; rw [getD_of er]
          refine ⟨_, rfl, _, rfl, p, _, _, _, rfl, rfl, SqT.of (t3 _ _ m2), atI_int tr.1 (by rw [List.getElem?_map, r1]; rfl), _, rfl, _, rfl, rq, c, dn, rz, r.1, r.2, ks, ns, _, ix ns ch, rfl, r2, r3, u1 _ _ (t2 _ _ hc), hN, u1 _ _ hD, by omega, fun u hu => ?_, fun mq zt H4 s4 h1 h2 => ?_⟩
          · have hu' := hrow.2 u hu
            refine ⟨hu'.1, by rw [nlen]; exact hu'.2, ?_⟩
            have hm := B.cov j t hj et u (by rw [enx]; exact hu)
            rw [kvF_some _ _ 0 hm, Nat.zero_add]
            rfl
          · have nD : ∀ c ys, H4 c = some (.tup ys) → (upd H4 D (.lst (ps.map V.ref ++ [.ref mq]))) c = some (.tup ys) := fun c ys e => by
              rw [upd_ne (ne_of e (s4 _ _ u2) (fun z => nomatch z))]
              exact e
            refine hN' _ H4 (s4 _ _ u2) ⟨ps ++ [mq], by rw [List.map_append]; rfl, (u1.trans s4).upd_free hD0, upd_same, by rw [List.length_append, List.length_singleton, u3], ?_⟩
            rw [List.take_add_one, et, List.map_append]
            refine rows_snoc (rows_tsame (u4.same s4) nD) (z := zt) ?_ ?_
            · rw [nD _ _ h1, ← egd]
            · rw [nD _ _ h2]
              show _ = some (HO.tup (((nx rs t).map (ix ns ch)).map V.int))
              rw [enx]
      · rintro ys H3 ⟨ps, rfl, u1, u2, u3, u4⟩
        rw [List.length_map, List.take_of_length_le (Nat.le_refl _)] at u4
        refine ⟨D, _, rfl, .inl ⟨SqL.of u2, fun zt hzt => ?_⟩⟩
        refine ⟨(by show 2 ≤ sizeLine; decide), fun m hm => ?_⟩
        have nzm : zt ≠ m := fun e => by rw [e, upd_same] at hm; cases hm
        have hm3 : H3 m = none := by rw [upd_ne (Ne.symm nzm)] at hm; exact hm
        have sw : Same H3 (upd (upd H3 zt (.tup (ps.map V.ref))) m (.tup [.int many, .ref zt])) := ((Same.refl H3).upd_free hzt).upd_free hm3
        exact k m ns ch _ ((tt.trans u1).trans sw) ⟨zt, ps, upd_same, by rw [upd_ne nzm, upd_same], u4.same sw⟩ C B
end
end K23
namespace L2
open PySem PySem.Spec PyProof.Rows

def tDispT (ty tv : TE) : TE := fun σ H Q => ∀ p, H p = none → tPairs [(ty, tv)] σ (upd H p (.dT [])) fun ps H2 => H2 p = some (.dT []) ∧ ∃ b v k, ps = [(.ref b, v)] ∧ H2 b = some (.tup (k.map kV)) ∧ Q (.ref p) (upd H2 p (.dT [(k, v)]))
theorem pe_dispT {X : Cx} {ke ve : Expr} {pos : Pos} {ty tv : TE} (hu : X.A.units < cLine) (h : PE X ke ty) (hv : PE X ve tv) : PE X (.Dict [some ke] [ve] pos) (tDispT ty tv) := by
  intro pins s σ H Q I q
  have hn := I.hok.fresh (Nat.le_refl s.heap.objs.size)
  have I1 := I.laid (a := s.heap.objs.size) (o := .dT []) (h' := s.heap.push { cls := .type "dict", data := .dict #[] }) (t' := s.toks) (fun _ _ q => Heap.get?_push_of_some _ q) (Nat.le_refl _) (dt_empty s.heap I.big)
  refine wpAny_Dict_any rfl rfl (by simp) (by simp) (thn ((pps_cons h hv pps_nil) pins _ σ _ _ I1 (q _ hn)) fun ws s2 ⟨ps, H2, I2, rel, e, b, v, k, ep, eb, q2⟩ => ?_)
  subst ep
  cases rel with
  | @cons p1 w1 ps1 ws1 h1 t =>
    cases t
    obtain ⟨u, r⟩ := w1
    obtain rfl : u = Value.ref b := h1.1
    obtain ⟨z, hd, xs0, r0, dd⟩ := dt_of I2.hok e
    cases r0
    unfold storeAll
    rw [List.forIn_cons]
    refine wpAny_bind (wpAny_bind (wpAny_dictSet_heap (hsz := Nat.zero_le _) (knd := tupleKind (mixKind X.prog X.w)) hu (key_of I2.hok eb) dd fun h' dd' hs => wpAny_pure ?_))
    simp only [List.forIn_nil]
    refine wpAny_pure ⟨.ref s.heap.objs.size, _, ?_, rfl, q2⟩
    obtain ⟨o, es, ep, hq, g2, g3, g4, _, g5⟩ := dd'
    refine d_write I2 (by rw [e]; exact True.intro) hs ⟨o, hq⟩ ⟨(by show 1 ≤ sizeLine; decide), hd, [(k, b, r)], .cons ⟨rfl, ?_, h1.2⟩ .nil, o, es, ep, hq, g2, g3, g4, g5⟩
    rw [upd_ne (ne_of eb e (fun z => nomatch z))]
    exact eb
end L2
namespace K23
open PySem L2 K20 K21 K60

abbrev PrAt (H : Hp) : List Addr → List Pr → Prop := Paired fun w p => H w = some (.tup [.int p.1, .int p.2])
theorem prAt_tsame {H H' : Hp} {ws : List Addr} {wt : List Pr} (h : PrAt H ws wt) (s : TSame H H') : PrAt H' ws wt := Paired.mapP h fun _ _ e => s _ _ e
theorem prAt_get {H : Hp} {ws : List Addr} {wt : List Pr} (h : PrAt H ws wt) : ∀ {i : Nat} {p : Pr}, wt[i]? = some p → ∃ w, ws[i]? = some w ∧ H w = some (.tup [.int p.1, .int p.2]) := by
  induction h with
  | nil => intro i p e; simp at e
  | @cons w p ws wt h t ih =>
    intro i p' g
    cases i with
    | zero => cases g; exact ⟨w, rfl, h⟩
    | succ i =>
      obtain ⟨w', h1, h2⟩ := ih (i := i) (by simpa using g)
      exact ⟨w', by simpa using h1, h2⟩
def dP (p : Pr) : PyData := .tuple [.int p.1, .int p.2]
theorem upd_swap {H : Hp} {a b : Addr} {o o' o2 : HO} : upd (upd (upd H a o) b o') a o2 = upd (upd H b o') a o2 := by
  funext c
  unfold upd
  by_cases e1 : c = a
  · simp [e1]
  · simp [e1]

end K23
namespace K23
open PySem L2 K20 K21 K60
theorem rowN_none : ∀ r : List Int, rowN none r = none
  | [] => rfl
  | t :: r => rowN_none r
structure Ordy (rs : Rms) : Prop where
  pre : ∀ d, d < rs.length → ∃ n, rowsN ((rs.take d).map (·.2)) = some n ∧ d < n
  all : ∃ n, rowsN (rs.map (·.2)) = some n
theorem Ordy.row {rs : Rms} (O : Ordy rs) {d : Nat} {r : Bool × List Int} (h : rs[d]? = some r) : ∃ n n', rowsN ((rs.take d).map (·.2)) = some n ∧ d < n ∧ rowN (some n) r.2 = some n' := by
  have hd := (List.getElem?_eq_some_iff.mp h).1
  obtain ⟨n, e, hl⟩ := O.pre d hd
  have e2 : rowsN ((rs.take (d + 1)).map (·.2)) = rowN (some n) r.2 := by
    rw [List.take_add_one, h, Option.toList_some, List.map_append, List.map_singleton, rowsN_snoc, e]
  by_cases hn : d + 1 < rs.length
  · obtain ⟨n', e', _⟩ := O.pre (d + 1) hn
    exact ⟨n, n', e, hl, by rw [← e2, e']⟩
  · obtain ⟨n', e'⟩ := O.all
    rw [List.take_of_length_le (by omega)] at e2
    exact ⟨n, n', e, hl, by rw [← e2, e']⟩
theorem LB.ordy {rs : Rms} {many : Int} {ns ch : List Int} (B : LB rs many ns ch ch.length) : Ordy (minM rs ns ch) := by
  have hl : (minM rs ns ch).length = ch.length := by unfold minM; rw [List.length_map]
  have e : ∀ d, ((minM rs ns ch).take d).map (·.2) = (ch.take d).map fun c => (nx rs c).map (ix ns ch) := fun d => by
    unfold minM
    rw [← List.map_take, List.map_map]
    rfl
  refine ⟨fun d hd => ?_, ch.length, ?_⟩
  · rw [e]
    exact B.pre d (by omega)
  · have q := e ch.length
    rw [List.take_of_length_le (by omega)] at q
    rw [q]
    exact B.ord
end K23
namespace K24
open PySem L2 K20 K21 K60 K23

structure Can (many : Int) (M : Rms) : Prop where
  good : Good many M
  ord : Ordy M
  all : rowsN (M.map (·.2)) = some M.length
  red : ∀ i j : Nat, i < M.length → j < M.length → Bi M M many i j → i = j
theorem can_of {rs : Rms} {many : Int} {ns ch : List Int} (G : Good many rs) (C : Cls rs many ns) (B : LB rs many ns ch ch.length) : Can many (minM rs ns ch) := by
  have hl : (minM rs ns ch).length = ch.length := by unfold minM; rw [List.length_map]
  refine ⟨min_good G B, B.ordy, ?_, fun i j hi hj h => min_parts G C B (by omega) (by omega) h⟩
  rw [hl, ← B.ord]
  unfold minM
  rw [List.map_map, List.take_of_length_le (Nat.le_refl _)]
  rfl
structure Sync (M1 M2 : Rms) (many : Int) (m : Nat) : Prop where
  l1 : m ≤ M1.length
  l2 : m ≤ M2.length
  bi : ∀ k : Nat, k < m → Bi M1 M2 many k k
section
variable {M1 M2 : Rms} {many : Int}
theorem sync_step (C1 : Can many M1) (C2 : Can many M2) {m m1 m2 : Nat} {t1 t2 : Int} (S : Sync M1 M2 many m) (i1 : Inr M1 t1) (i2 : Inr M2 t2) (h : Bi M1 M2 many t1 t2) (e1 : stepT (some m) t1 = some m1) (e2 : stepT (some m) t2 = some m2) : t1 = t2 ∧ m1 = m2 ∧ Sync M1 M2 many m1 := by
  unfold stepT at e1 e2
  rw [Option.bind_some] at e1 e2
  have a0 := i1.1
  have a1 := i1.2
  have b0 := i2.1
  have b1 := i2.2
  have n1 : ((t1.toNat : Nat) : Int) = t1 := by omega
  have n2 : ((t2.toNat : Nat) : Int) = t2 := by omega
  have s1 := S.l1
  have s2 := S.l2
  by_cases c1 : t1 < (m : Int)
  · rw [if_pos c1] at e1
    cases e1
    have q := S.bi t1.toNat (by omega)
    rw [n1] at q
    have z : Bi M2 M2 many t1 t2 := q.symm.trans h
    rw [← n1, ← n2] at z
    have e := C2.red _ _ (by omega) (by omega) z
    have e' : t1 = t2 := by omega
    rw [← e', if_pos c1] at e2
    cases e2
    exact ⟨e', rfl, S⟩
  · rw [if_neg c1] at e1
    by_cases d1 : t1 = (m : Int)
    · rw [if_pos d1] at e1
      cases e1
      by_cases c2 : t2 < (m : Int)
      · have q := S.bi t2.toNat (by omega)
        rw [n2] at q
        have z : Bi M1 M1 many t1 t2 := h.trans q.symm
        rw [← n1, ← n2] at z
        have e := C1.red _ _ (by omega) (by omega) z
        omega
      · rw [if_neg c2] at e2
        by_cases d2 : t2 = (m : Int)
        · rw [if_pos d2] at e2
          cases e2
          refine ⟨by omega, rfl, by omega, by omega, fun k hk => ?_⟩
          by_cases hkm : k < m
          · exact S.bi k hkm
          · have : k = m := by omega
            subst this
            rw [d1, d2] at h
            exact h
        · rw [if_neg d2] at e2
          cases e2
    · rw [if_neg d1] at e1
      cases e1
theorem sync_row (C1 : Can many M1) (C2 : Can many M2) : ∀ (r1 r2 : List Int) (m m1 m2 : Nat), r1.length = r2.length → (∀ t ∈ r1, Inr M1 t) → (∀ t ∈ r2, Inr M2 t) → (∀ i : Nat, i < r1.length → Bi M1 M2 many (r1.getD i 0) (r2.getD i 0)) → Sync M1 M2 many m → rowN (some m) r1 = some m1 → rowN (some m) r2 = some m2 → r1 = r2 ∧ m1 = m2 ∧ Sync M1 M2 many m1
  | [], [], m, m1, m2, _, _, _, _, S, e1, e2 => by
    cases e1
    cases e2
    exact ⟨rfl, rfl, S⟩
  | [], _ :: _, _, _, _, h, _, _, _, _, _, _ => by simp at h
  | _ :: _, [], _, _, _, h, _, _, _, _, _, _ => by simp at h
  | t1 :: r1, t2 :: r2, m, m1, m2, hl, h1, h2, hb, S, e1, e2 => by
    have e1' : rowN (stepT (some m) t1) r1 = some m1 := e1
    have e2' : rowN (stepT (some m) t2) r2 = some m2 := e2
    cases q1 : stepT (some m) t1 with
    | none => rw [q1, rowN_none] at e1'; cases e1'
    | some n1 =>
      cases q2 : stepT (some m) t2 with
      | none => rw [q2, rowN_none] at e2'; cases e2'
      | some n2 =>
        rw [q1] at e1'
        rw [q2] at e2'
        obtain ⟨et, en, S'⟩ := sync_step C1 C2 S (h1 _ List.mem_cons_self) (h2 _ List.mem_cons_self) (hb 0 (by simp)) q1 q2
        subst en
        obtain ⟨er, em, S''⟩ := sync_row C1 C2 r1 r2 n1 m1 m2 (by simpa using hl) (fun t ht => h1 t (List.mem_cons_of_mem _ ht)) (fun t ht => h2 t (List.mem_cons_of_mem _ ht)) (fun i hi => hb (i + 1) (by simpa using hi)) S' e1' e2'
        exact ⟨by rw [et, er], em, S''⟩
theorem sync_rows (C1 : Can many M1) (C2 : Can many M2) (h : Bi M1 M2 many 0 0) : ∀ d : Nat, d ≤ M1.length → d ≤ M2.length ∧ M1.take d = M2.take d ∧ ∃ n, rowsN ((M1.take d).map (·.2)) = some n ∧ Sync M1 M2 many n
  | 0, _ => ⟨Nat.zero_le _, rfl, 1, rfl, C1.good.pos, C2.good.pos, fun k hk => by
    have : k = 0 := by omega
    subst this
    exact h⟩
  | d + 1, hd => by
    obtain ⟨d2, et, n, en, S⟩ := sync_rows C1 C2 h d (by omega)
    obtain ⟨r1, er1⟩ : ∃ r, M1[d]? = some r := ⟨M1[d], by simp [hd]⟩
    obtain ⟨n0, n1, f1, f2, f3⟩ := C1.ord.row er1
    rw [en] at f1
    cases f1
    have hd2 : d < M2.length := Nat.lt_of_lt_of_le f2 S.l2
    obtain ⟨r2, er2⟩ : ∃ r, M2[d]? = some r := ⟨M2[d], by simp [hd2]⟩
    obtain ⟨k0, k1, g1, g2, g3⟩ := C2.ord.row er2
    rw [← et, en] at g1
    cases g1
    have b := S.bi d f2
    have w1 := C1.good.row r1 (List.mem_of_getElem? er1)
    have w2 := C2.good.row r2 (List.mem_of_getElem? er2)
    have x1 : nx M1 d = r1.2 := by unfold nx; rw [Int.toNat_natCast, getD_of er1]
    have x2 : nx M2 d = r2.2 := by unfold nx; rw [Int.toNat_natCast, getD_of er2]
    obtain ⟨e1, e2, S'⟩ := sync_row C1 C2 r1.2 r2.2 n n1 k1 (by omega) w1.2 w2.2 (fun i hi => by
      have q := b.next (l := (i : Int)) (by omega) (by omega)
      rw [nextOf_nx, nextOf_nx, x1, x2, Int.toNat_natCast] at q
      exact q) S f3 g3
    have eg : r1.1 = r2.1 := by
      have q := b [] Lts.nil
      have q' : gd M1 (d : Int) = gd M2 (d : Int) := q
      unfold gd at q'
      rw [Int.toNat_natCast, getD_of er1, getD_of er2] at q'
      exact q'
    refine ⟨hd2, ?_, n1, ?_, S'⟩
    · rw [List.take_add_one, List.take_add_one, et, er1, er2]
      rw [show r1 = r2 from Prod.ext eg e1]
    · rw [List.take_add_one, er1, Option.toList_some, List.map_append, List.map_singleton, rowsN_snoc, en]
      exact f3
theorem canon (C1 : Can many M1) (C2 : Can many M2) (h : Bi M1 M2 many 0 0) : M1 = M2 := by
  obtain ⟨h2, et, n, en, S⟩ := sync_rows C1 C2 h M1.length (Nat.le_refl _)
  rw [List.take_of_length_le (Nat.le_refl _), C1.all] at en
  cases en
  have hl : M2.length ≤ M1.length := by
    refine Nat.le_of_not_lt fun hlt => ?_
    obtain ⟨n', e', hn'⟩ := C2.ord.pre M1.length hlt
    rw [← et, List.take_of_length_le (Nat.le_refl _), C1.all] at e'
    cases e'
    omega
  rw [List.take_of_length_le (Nat.le_refl _), List.take_of_length_le hl] at et
  exact et
end

def dR (r : Bool × List Int) : PyData := .tuple [.bool r.1, .tuple (r.2.map PyData.int)]
def dM (many : Int) (rs : Rms) : PyData := .tuple [.int many, .tuple (rs.map dR)]
theorem ints_lay' : ∀ ns : List Int, PyData.canLayAll0 (ns.map PyData.int) = true
  | [] => rfl
  | n :: ns => by
    rw [List.map_cons, PyData.canLayAll0, ints_lay' ns]
    rfl
theorem ints_dep : ∀ ns : List Int, PyData.depthAll (ns.map PyData.int) = 0
  | [] => by rw [List.map_nil, PyData.depthAll]
  | n :: ns => by
    rw [List.map_cons, PyData.depthAll, ints_dep ns, PyData.depth]
    rfl
theorem dR_lay (r : Bool × List Int) : (dR r).canLay0 = true := by
  show (PyData.canLay0 (.bool r.1) && (PyData.canLayAll0 (r.2.map PyData.int) && PyData.canLayAll0 [])) = true
  rw [ints_lay']
  rfl
theorem dRs_lay : ∀ rs : Rms, PyData.canLayAll0 (rs.map dR) = true
  | [] => rfl
  | r :: rs => by
    rw [List.map_cons, PyData.canLayAll0, dR_lay, dRs_lay rs]
    rfl
theorem dR_dep (r : Bool × List Int) : (dR r).depth ≤ 2 := by
  unfold dR
  rw [PyData.depth, PyData.depthAll, PyData.depthAll, PyData.depthAll, PyData.depth, PyData.depth, ints_dep]
  decide
theorem dRs_dep : ∀ rs : Rms, PyData.depthAll (rs.map dR) ≤ 2
  | [] => Nat.zero_le _
  | r :: rs => by
    rw [List.map_cons, PyData.depthAll]
    have h1 := dR_dep r
    have h2 := dRs_dep rs
    omega
theorem dM_ok (many : Int) (rs : Rms) : DOk (dM many rs) := by
  constructor
  · show (PyData.canLay0 (.int many) && (PyData.canLayAll0 (rs.map dR) && PyData.canLayAll0 [])) = true
    rw [dRs_lay]
    rfl
  · unfold dM
    rw [PyData.depth, PyData.depthAll, PyData.depthAll, PyData.depthAll, PyData.depth, PyData.depth]
    have := dRs_dep rs
    omega
theorem ints_dat {K : PySem.W.Frag} {H : Hp} : ∀ ns : List Int, DsAt K H (ns.map V.int) (ns.map PyData.int)
  | [] => .nil
  | n :: ns => .cons (.int n) (ints_dat ns)
theorem rows_dat {K : PySem.W.Frag} {H : Hp} : ∀ (rs : Rms) (qs : List Addr), RowsAt H qs rs → DsAt K H (qs.map V.ref) (rs.map dR)
  | [], [], _ => .nil
  | [], _ :: _, h => by have := h.1; simp at this
  | _ :: _, [], h => by have := h.1; simp at this
  | r :: rs, q :: qs, h => by
    obtain ⟨q', z, e1, e2, e3⟩ := h.2 0 r rfl
    cases e1
    refine .cons (.tup (SqT.of e2) (.cons (.bl _) (.cons (.tup (SqT.of e3) (ints_dat _)) .nil))) (rows_dat rs qs ⟨by have := h.1; simpa using this, fun i r' e => ?_⟩)
    obtain ⟨q'', z', g1, g2, g3⟩ := h.2 (i + 1) r' (by simpa using e)
    exact ⟨q'', z', by simpa using g1, g2, g3⟩
theorem m_dat {K : PySem.W.Frag} {H : Hp} {a : Addr} {many : Int} {rs : Rms} (h : MAt H a many rs) : DAt K H (.ref a) (dM many rs) := by
  obtain ⟨p, qs, h1, h2, h3⟩ := h
  exact .tup (SqT.of h1) (.cons (.int _) (.cons (.tup (SqT.of h2) (rows_dat rs qs h3)) .nil))

def fP (mx b x : Int) : Int := if x = 0 then 0 else 1 + (x - 1 + b) % mx
def gP (mx b x : Int) : Int := if x = 0 then 0 else 1 + (x - 1 - b) % mx
end K24
namespace K25
open PySem L2 K20 K21 K60 K23

def bh (r1 r2 : Rms) (p : Pr) : List Pr := (nx r1 p.1).zip (nx r2 p.2)
def ixP (ps : List Pr) (q : Pr) : Int := (ps.idxOf q : Int)
def rowP (r1 r2 : Rms) (f : Bool → Bool → Bool) (ps : List Pr) (p : Pr) : Bool × List Int := (f (gd r1 p.1) (gd r2 p.2), (bh r1 r2 p).map (ixP ps))
def joinM (r1 r2 : Rms) (f : Bool → Bool → Bool) (ps : List Pr) : Rms := ps.map (rowP r1 r2 f ps)
structure JB (r1 r2 : Rms) (many : Int) (ps : List Pr) (d : Nat) : Prop where
  hd : ps[0]? = some (0, 0)
  nd : ps.Nodup
  ok : ∀ p ∈ ps, PIn r1 r2 p
  dl : d ≤ ps.length
  cov : ∀ (i : Nat) (p : Pr), i < d → ps[i]? = some p → ∀ q ∈ bh r1 r2 p, q ∈ ps
structure JV (r1 r2 : Rms) (many : Int) (ps : List Pr) (d : Nat) (p0 : Pr) (j : Nat) : Prop where
  pl : ps[d]? = some p0
  hd : ps[0]? = some (0, 0)
  nd : ps.Nodup
  ok : ∀ p ∈ ps, PIn r1 r2 p
  cov : ∀ (i : Nat) (p : Pr), i < d → ps[i]? = some p → ∀ q ∈ bh r1 r2 p, q ∈ ps
  cov2 : ∀ q ∈ (bh r1 r2 p0).take j, q ∈ ps
section
variable {r1 r2 : Rms} {many : Int} {ps : List Pr} {d : Nat}
theorem bh_len (G1 : Good many r1) (G2 : Good many r2) {p : Pr} (h : PIn r1 r2 p) : ((bh r1 r2 p).length : Int) = many := by
  unfold bh
  rw [List.length_zip]
  have := nx_len G1 h.1
  have := nx_len G2 h.2
  omega
theorem bh_at (G1 : Good many r1) (G2 : Good many r2) {p : Pr} (h : PIn r1 r2 p) {l : Int} (l0 : 0 ≤ l) (l1 : l < many) : (bh r1 r2 p)[l.toNat]? = some (sc r1 r2 p l) := by
  have e1 := nx_len G1 h.1
  have e2 := nx_len G2 h.2
  obtain ⟨a, ea⟩ := some_at (nx r1 p.1) l l0 (by omega)
  obtain ⟨b, eb⟩ := some_at (nx r2 p.2) l l0 (by omega)
  unfold bh sc
  rw [show ((nx r1 p.1).zip (nx r2 p.2))[l.toNat]? = some (a, b) from List.getElem?_zip_eq_some.mpr ⟨ea, eb⟩, nextOf_nx, nextOf_nx, getD_of ea, getD_of eb]
theorem bh_in (G1 : Good many r1) (G2 : Good many r2) {p q : Pr} (h : PIn r1 r2 p) (hq : q ∈ bh r1 r2 p) : PIn r1 r2 q := by
  unfold bh at hq
  have := List.of_mem_zip hq
  exact ⟨nx_in G1 h.1 this.1, nx_in G2 h.2 this.2⟩
theorem JB.init (G1 : Good many r1) (G2 : Good many r2) : JB r1 r2 many [(0, 0)] 0 := by
  have h1 := G1.pos
  have h2 := G2.pos
  refine ⟨rfl, by simp, fun p hp => ?_, by simp, fun i p hi => by omega⟩
  rw [List.mem_singleton] at hp
  subst hp
  exact ⟨⟨Int.le_refl 0, by show (0 : Int) < _; omega⟩, ⟨Int.le_refl 0, by show (0 : Int) < _; omega⟩⟩
theorem JB.start {p0 : Pr} (B : JB r1 r2 many ps d) (h : ps[d]? = some p0) : JV r1 r2 many ps d p0 0 := ⟨h, B.hd, B.nd, B.ok, B.cov, fun q hq => by simp at hq⟩
theorem JV.done {p0 : Pr} {j : Nat} (V : JV r1 r2 many ps d p0 j) (h : (bh r1 r2 p0).length ≤ j) : JB r1 r2 many ps (d + 1) := by
  have c2 := V.cov2
  rw [List.take_of_length_le h] at c2
  refine ⟨V.hd, V.nd, V.ok, (List.getElem?_eq_some_iff.mp V.pl).1, fun i p hi hp => ?_⟩
  by_cases e : i = d
  · subst e
    rw [V.pl] at hp
    cases hp
    exact c2
  · exact V.cov i p (by omega) hp
theorem JV.old {p0 q : Pr} {j : Nat} (V : JV r1 r2 many ps d p0 j) (h : (bh r1 r2 p0)[j]? = some q) (m : q ∈ ps) : JV r1 r2 many ps d p0 (j + 1) := by
  refine ⟨V.pl, V.hd, V.nd, V.ok, V.cov, fun u hu => ?_⟩
  rw [List.take_add_one, h, Option.toList_some, List.mem_append, List.mem_singleton] at hu
  rcases hu with hu | rfl
  · exact V.cov2 u hu
  · exact m
theorem JV.new {p0 q : Pr} {j : Nat} (G1 : Good many r1) (G2 : Good many r2) (V : JV r1 r2 many ps d p0 j) (h : (bh r1 r2 p0)[j]? = some q) (m : q ∉ ps) : JV r1 r2 many (ps ++ [q]) d p0 (j + 1) := by
  have hd : d < ps.length := (List.getElem?_eq_some_iff.mp V.pl).1
  have lt : ∀ {i : Nat} {e : Pr}, ps[i]? = some e → (ps ++ [q])[i]? = some e := fun {i e} h => by
    rw [List.getElem?_append_left (List.getElem?_eq_some_iff.mp h).1]
    exact h
  refine ⟨lt V.pl, lt V.hd, ?_, fun p hp => ?_, fun i p hi hp u hu => ?_, fun u hu => ?_⟩
  · rw [List.nodup_append]
    refine ⟨V.nd, by simp, fun a ha b hb => ?_⟩
    rw [List.mem_singleton] at hb
    subst hb
    intro z
    subst z
    exact m ha
  · rcases List.mem_append.mp hp with hp | hp
    · exact V.ok p hp
    · rw [List.mem_singleton] at hp
      subst hp
      exact bh_in G1 G2 (V.ok p0 (List.mem_of_getElem? V.pl)) (List.mem_of_getElem? h)
  · rw [List.getElem?_append_left (by omega)] at hp
    exact List.mem_append_left _ (V.cov i p hi hp u hu)
  · rw [List.take_add_one, h, Option.toList_some, List.mem_append, List.mem_singleton] at hu
    rcases hu with hu | rfl
    · exact List.mem_append_left _ (V.cov2 u hu)
    · exact List.mem_append_right _ (by simp)
theorem ixP_app {q x : Pr} (h : q ∈ ps) : ixP (ps ++ [x]) q = ixP ps q := by
  unfold ixP
  rw [List.idxOf_append, if_pos h]
theorem rowsP_app {f : Bool → Bool → Bool} {x : Pr} (dl : d ≤ ps.length) (cov : ∀ (i : Nat) (p : Pr), i < d → ps[i]? = some p → ∀ q ∈ bh r1 r2 p, q ∈ ps) :
    ((ps ++ [x]).take d).map (rowP r1 r2 f (ps ++ [x])) = (ps.take d).map (rowP r1 r2 f ps) := by
  rw [List.take_append_of_le_length dl]
  refine List.map_congr_left fun p hp => ?_
  obtain ⟨i, hi, e⟩ := List.getElem_of_mem hp
  rw [List.length_take] at hi
  rw [List.getElem_take] at e
  unfold rowP
  rw [List.map_congr_left fun q hq => ixP_app (cov i p (by omega) (by rw [← e]; simp) q hq)]

theorem ixP_lt {q : Pr} (h : q ∈ ps) : 0 ≤ ixP ps q ∧ ixP ps q < (ps.length : Int) := by
  unfold ixP
  have := List.idxOf_lt_length_of_mem h
  omega
theorem ixP_at {q : Pr} (h : q ∈ ps) : ps[(ixP ps q).toNat]? = some q := by
  unfold ixP
  have := List.idxOf_lt_length_of_mem h
  rw [Int.toNat_natCast, List.getElem?_eq_getElem this, List.getElem_idxOf this]
theorem join_len {f : Bool → Bool → Bool} : (joinM r1 r2 f ps).length = ps.length := List.length_map _
theorem join_good {f : Bool → Bool → Bool} (G1 : Good many r1) (G2 : Good many r2) (B : JB r1 r2 many ps ps.length) (h : ps.length ≤ 100) : Good many (joinM r1 r2 f ps) := by
  refine ⟨G1.mn, ?_, by rw [join_len]; exact h, fun r hr => ?_⟩
  · rw [join_len]
    exact (List.getElem?_eq_some_iff.mp B.hd).1
  · obtain ⟨p, hp, e⟩ := List.mem_map.mp hr
    subst e
    obtain ⟨i, hi, ei⟩ := List.getElem_of_mem hp
    refine ⟨?_, fun n hn => ?_⟩
    · show (((bh r1 r2 p).map (ixP ps)).length : Int) = many
      rw [List.length_map]
      exact bh_len G1 G2 (B.ok p hp)
    · obtain ⟨q, hq, e⟩ := List.mem_map.mp hn
      subst e
      rw [join_len]
      exact ixP_lt (B.cov i p hi (by rw [← ei]; simp) q hq)
theorem join_run {f : Bool → Bool → Bool} (G1 : Good many r1) (G2 : Good many r2) (B : JB r1 r2 many ps ps.length) : ∀ (run : List Int) (p : Pr), p ∈ ps → Lts many run →
    gd (joinM r1 r2 f ps) (walkM (joinM r1 r2 f ps) (ixP ps p) run) = f (gd r1 (walkM r1 p.1 run)) (gd r2 (walkM r2 p.2 run))
  | [], p, hp, _ => by
    show gd (joinM r1 r2 f ps) (ixP ps p) = f (gd r1 p.1) (gd r2 p.2)
    unfold gd
    rw [getD_of (x := rowP r1 r2 f ps p) (by unfold joinM; rw [List.getElem?_map, ixP_at hp]; rfl)]
    rfl
  | l :: run, p, hp, hl => by
    have l0 := hl.head.1
    have l1 := hl.head.2
    have eb := bh_at G1 G2 (B.ok p hp) l0 l1
    obtain ⟨i, hi, ei⟩ := List.getElem_of_mem hp
    have hm : sc r1 r2 p l ∈ ps := B.cov i p hi (by rw [← ei]; simp) _ (List.mem_of_getElem? eb)
    have ih := join_run (f := f) G1 G2 B run (sc r1 r2 p l) hm hl.tail
    have en : nextOf (joinM r1 r2 f ps) (ixP ps p) l = ixP ps (sc r1 r2 p l) := by
      unfold nextOf
      rw [getD_of (x := rowP r1 r2 f ps p) (by unfold joinM; rw [List.getElem?_map, ixP_at hp]; rfl)]
      exact getD_of (by show ((bh r1 r2 p).map (ixP ps))[l.toNat]? = _; rw [List.getElem?_map, eb]; rfl)
    show gd (joinM r1 r2 f ps) (walkM (joinM r1 r2 f ps) (nextOf (joinM r1 r2 f ps) (ixP ps p) l) run) = _
    rw [en, ih]
    rfl
theorem ixP_zero (B : JB r1 r2 many ps ps.length) : ixP ps (0, 0) = 0 := by
  have h := B.hd
  cases ps with
  | nil => simp at h
  | cons x ps =>
    cases h
    unfold ixP
    rw [List.idxOf_cons_self]
    rfl
end

def numK : Nat → List Pr → List (List Key × V)
  | _, [] => []
  | n, p :: l => (keyP p, V.int (n : Int)) :: numK (n + 1) l
theorem numK_len : ∀ (l : List Pr) (n : Nat), (numK n l).length = l.length
  | [], _ => rfl
  | p :: l, n => by simp only [numK, List.length_cons, numK_len l (n + 1)]
theorem numK_none (p : Pr) : ∀ (l : List Pr) (n : Nat), p ∉ l → valV (numK n l) (keyP p) = none
  | [], _, _ => rfl
  | x :: l, n, h => by
    rw [List.mem_cons, not_or] at h
    show valV ((keyP x, V.int (n : Int)) :: numK (n + 1) l) (keyP p) = none
    rw [valV_neg (fun z => h.1 (keyP_inj z).symm)]
    exact numK_none p l (n + 1) h.2
theorem numK_some (p : Pr) : ∀ (l : List Pr) (n : Nat), p ∈ l → valV (numK n l) (keyP p) = some (.int ((n + l.idxOf p : Nat) : Int))
  | [], _, h => by cases h
  | x :: l, n, h => by
    show valV ((keyP x, V.int (n : Int)) :: numK (n + 1) l) (keyP p) = _
    by_cases e : x = p
    · rw [valV_pos (by rw [e]), e]
      simp
    · have hk : p ∈ l := (List.mem_cons.mp h).resolve_left fun z => e z.symm
      rw [valV_neg (fun z => e (keyP_inj z)), numK_some p l (n + 1) hk, List.idxOf_cons]
      have : (x == p) = false := by simpa using e
      rw [this]
      simp only [cond_false]
      rw [show n + 1 + l.idxOf p = n + (l.idxOf p + 1) by omega]
theorem numK_snoc (x : Pr) : ∀ (l : List Pr) (n : Nat), numK n (l ++ [x]) = numK n l ++ [(keyP x, .int ((n + l.length : Nat) : Int))]
  | [], n => rfl
  | y :: l, n => by
    show (keyP y, V.int (n : Int)) :: numK (n + 1) (l ++ [x]) = _
    rw [numK_snoc x l (n + 1)]
    simp only [numK, List.cons_append, List.length_cons]
    rw [show n + 1 + l.length = n + (l.length + 1) by omega]
theorem numK_put {x : Pr} {l : List Pr} (h : x ∉ l) : putK (numK 0 l) (keyP x) (V.int (l.length : Int)) = numK 0 (l ++ [x]) := by
  rw [putK_new, numK_snoc, Nat.zero_add]
  exact numK_none x l 0 h
end K25
namespace K22
open PySem L2 K20 K21 K60 K23

inductive PR (rs : Rms) (many : Int) : Nat → Int → Int → List Int → Prop
  | nil {x y : Int} : gd rs x ≠ gd rs y → PR rs many 0 x y []
  | cons {k : Nat} {x y l : Int} {run : List Int} : 0 ≤ l → l < many → (∀ l', 0 ≤ l' → l' < l → Eqk rs many k (nextOf rs x l') (nextOf rs y l')) → PR rs many k (nextOf rs x l) (nextOf rs y l) run → PR rs many (k + 1) x y (l :: run)
theorem PR.len {rs : Rms} {many : Int} {k : Nat} {x y : Int} {run : List Int} (h : PR rs many k x y run) : run.length = k := by
  induction h with
  | nil _ => rfl
  | cons _ _ _ _ ih => rw [List.length_cons, ih]
theorem PR.parts {rs : Rms} {many : Int} {k : Nat} {x y : Int} {run : List Int} (h : PR rs many k x y run) : Lts many run ∧ gd rs (walkM rs x run) ≠ gd rs (walkM rs y run) := by
  induction h with
  | nil h => exact ⟨Lts.nil, h⟩
  | cons l0 l1 _ _ ih => exact ⟨ih.1.cons l0 l1, ih.2⟩
theorem PR.first {rs : Rms} {many : Int} {k : Nat} {x y : Int} {run : List Int} (h : PR rs many k x y run) : ∀ run' : List Int, Lts many run' → run'.length = k → gd rs (walkM rs x run') ≠ gd rs (walkM rs y run') → HT.lexLt run' run = false := by
  induction h with
  | nil _ =>
    intro run' _ hl _
    have : run' = [] := List.length_eq_zero_iff.mp hl
    subst this
    exact HT.lexLt_nil_nil
  | @cons k x y l run l0 l1 hb _ ih =>
    intro run' hr hl hd
    cases run' with
    | nil => simp at hl
    | cons l' run' =>
      have hl' : run'.length = k := by simpa using hl
      rw [HT.lexLt_cons]
      by_cases e : l' = l
      · rw [if_pos e]
        subst e
        exact ih run' hr.tail hl' hd
      · rw [if_neg e]
        refine decide_eq_false fun z => hd ?_
        exact hb l' hr.head.1 z run' (Nat.le_of_eq hl') hr.tail

structure First (r1 r2 : Rms) (many x y : Int) (run : List Int) : Prop where
  lts : Lts many run
  ne : gd r1 (walkM r1 x run) ≠ gd r2 (walkM r2 y run)
  min : ∀ run', Lts many run' → gd r1 (walkM r1 x run') ≠ gd r2 (walkM r2 y run') → bef run' run = false
theorem PR.fst {rs : Rms} {many : Int} {k : Nat} {x y : Int} {run : List Int} (h : PR rs many k x y run) (e : ∀ j, j < k → Eqk rs many j x y) : First rs rs many x y run := by
  refine ⟨h.parts.1, h.parts.2, fun run' hr hd => ?_⟩
  have hk := h.len
  unfold bef
  by_cases el : run'.length = run.length
  · rw [if_pos el]
    exact h.first run' hr (by omega) hd
  · rw [if_neg el]
    refine decide_eq_false fun z => hd ?_
    exact e run'.length (by omega) run' (Nat.le_refl _) hr
theorem eqk_le {rs : Rms} {many x y : Int} {j k : Nat} (h : Eqk rs many k x y) (hj : j ≤ k) : Eqk rs many j x y := fun run hl hr => h run (by omega) hr

def Res (H : Hp) (r1 r2 : Rms) (many x y : Int) (v : V) : Prop := (v = .non ∧ Bi r1 r2 many x y) ∨ ∃ p run, v = .ref p ∧ H p = some (.tup (run.map V.int)) ∧ First r1 r2 many x y run ∧ run.length ≤ 200

structure Pre (rs : Rms) (many : Int) (a : Nat) (x y : Int) (i : Nat) (here there : Int) (rr : List Int) : Prop where
  hx : Inr rs here
  hy : Inr rs there
  ne : ¬ Eqk rs many (a - i) here there
  eq : i < a → Eqk rs many (a - i - 1) here there
  ext : ∀ rest, PR rs many (a - i) here there rest → PR rs many a x y (rr ++ rest)
theorem Pre.step {rs : Rms} {many : Int} {a : Nat} {x y here there l : Int} {i : Nat} {rr : List Int} (G : Good many rs) (p : Pre rs many a x y i here there rr) (hi : i < a) (l0 : 0 ≤ l) (l1 : l < many) (hn : ¬ Eqk rs many (a - i - 1) (nextOf rs here l) (nextOf rs there l))
    (hb : ∀ l', 0 ≤ l' → l' < l → Eqk rs many (a - i - 1) (nextOf rs here l') (nextOf rs there l')) : Pre rs many a x y (i + 1) (nextOf rs here l) (nextOf rs there l) (rr ++ [l]) := by
  have e1 : a - (i + 1) = a - i - 1 := by omega
  refine ⟨next_in G p.hx.1 p.hx.2 l0 l1, next_in G p.hy.1 p.hy.2 l0 l1, by rw [e1]; exact hn, fun h => ?_, fun rest hr => ?_⟩
  · have q := p.eq hi
    rw [show a - i - 1 = (a - (i + 1) - 1) + 1 by omega] at q
    exact (eqk_succ.mp q).2 l l0 l1
  · rw [e1] at hr
    rw [List.append_assoc]
    refine p.ext _ ?_
    rw [show a - i = a - i - 1 + 1 by omega]
    exact .cons l0 l1 hb hr
theorem Pre.some {rs : Rms} {many : Int} {a : Nat} {x y here there : Int} {i : Nat} {rr : List Int} (p : Pre rs many a x y i here there rr) (hi : i < a) : ∃ l, 0 ≤ l ∧ l < many ∧ ¬ Eqk rs many (a - i - 1) (nextOf rs here l) (nextOf rs there l) := by
  refine Classical.byContradiction fun hc => p.ne ?_
  rw [show a - i = a - i - 1 + 1 by omega, eqk_succ]
  refine ⟨p.eq hi, fun l l0 l1 => Classical.byContradiction fun hn => hc ⟨l, l0, l1, hn⟩⟩
theorem Pre.done {rs : Rms} {many : Int} {a : Nat} {x y here there : Int} {rr : List Int} (p : Pre rs many a x y a here there rr) : PR rs many a x y rr := by
  have q := p.ext []
  rw [List.append_nil, Nat.sub_self] at q
  refine q (.nil fun z => p.ne ?_)
  rw [Nat.sub_self]
  exact eqk_zero.mpr z
end K22
namespace K22
open PySem L2 K20 K21 K60 K23
theorem uni_eq {ks : List V} {u v : V} {a b : Int} (h : Uni ks) (hu : u ∈ ks) (hv : v ∈ ks) (eu : nV u = some a) (ev : nV v = some b) : (∃ p q, u = .bl p ∧ v = .bl q ∧ (p = q ↔ a = b)) ∨ (u = .int a ∧ v = .int b) := by
  rcases h with h | h
  · obtain ⟨p, rfl⟩ := h u hu
    obtain ⟨q, rfl⟩ := h v hv
    refine .inl ⟨p, q, rfl, rfl, ?_⟩
    cases eu
    cases ev
    cases p <;> cases q <;> decide
  · obtain ⟨i, rfl⟩ := h u hu
    obtain ⟨j, rfl⟩ := h v hv
    cases eu
    cases ev
    exact .inr ⟨rfl, rfl⟩

def spPl : Sp := fun vs H Q _ => ∃ (z1 z2 c : Addr) (t1 t2 : List Int) (ks : List V) (ns : List Int), vs = [.ref z1, .ref z2, .ref c] ∧ H z1 = some (.tup (t1.map V.int)) ∧ H z2 = some (.tup (t2.map V.int)) ∧ H c = some (.lst ks) ∧ Nums ks ns ∧ Uni ks ∧ t1.length = t2.length ∧ t1.length ≤ 8 ∧
  (∀ t ∈ t1, 0 ≤ t ∧ t < (ns.length : Int)) ∧ (∀ t ∈ t2, 0 ≤ t ∧ t < (ns.length : Int)) ∧ (∃ l : Nat, l < t1.length ∧ kn ns (t1.getD l 0) ≠ kn ns (t2.getD l 0)) ∧
  ∀ l : Nat, l < t1.length → kn ns (t1.getD l 0) ≠ kn ns (t2.getD l 0) → (∀ l' : Nat, l' < l → kn ns (t1.getD l' 0) = kn ns (t2.getD l' 0)) → Q (.int (l : Int)) H
section
variable {P : Program} {w : World} {K : PySem.W.Frag} {mg : Str → Option Value} {base : Heap}
theorem scPl : FnScope ["one", "other", "kinds", "letter"] ["one", "other", "kinds"] (defScope sPl) := ⟨rfl, rfl, rfl, by decide +kernel, rfl, by decide +kernel, by decide +kernel⟩
theorem ok_pl {f : Addr} {fd : FuncData} (F : Fun K "parting_letter" "parting_letter" sPl f fd) (T : Txt mg) : FnOk P w K mg base CX0 1 f fd ["one", "other", "kinds"] spPl := by
  refine F.ok scPl (fun vs H Q E h => ?_) (fun cdv A outer s H vs Q E hr h => ?_)
  · obtain ⟨z1, z2, c, t1, t2, ks, ns, rfl, _⟩ := h
    rfl
  · obtain ⟨z1, z2, c, t1, t2, ks, ns, rfl, h1, h2, hc, hN, hU, hl, h8, r1, r2, ⟨lx, lx1, lx2⟩, k⟩ := h
    refine ⟨_, pss_cons (ps_for PassesOwn.never rfl (pi_range1 rfl T.range (pa_cons (pe_callB call_len_seq (by rfl) T.len PySem.boot_len (pa_cons (pv 0) pa_nil)) pa_nil)) (pg_name (i := 3) scPl.nd rfl (Or.inl rfl))
        (pss_one (ps_if (pt_cut (pt_cmpR op_ne (pe_ix ix_list (pv 2) (pe_ix ix_tup (pv 0) (pv 3) (fun _ _ => rfl)) (fun _ _ => rfl)) (pe_ix ix_list (pv 2) (pe_ix ix_tup (pv 1) (pv 3) (fun _ _ => rfl)) (fun _ _ => rfl)) (nomark _))) (pss_one (ps_ret (pv 3))) pss_nil)))
      (pss_one (ps_ret pe_non)), ?_⟩
    have hl1 : (t1.map V.int).length = t1.length := List.length_map _
    refine ⟨_, rfl, z1, _, rfl, .inr (SqT.of h1), ((t1.map V.int).length : Int), rfl, by omega, by omega, ?_⟩
    have en : (((t1.map V.int).length : Nat) : Int).toNat = t1.length := by rw [hl1]; exact Int.toNat_natCast _
    refine for_range (n := (((t1.map V.int).length : Nat) : Int).toNat) (fun i σ H2 => ∃ v3 : Option V, σ = [some (.ref z1), some (.ref z2), some (.ref c), v3] ∧ H2 = H ∧ ∀ l' : Nat, l' < i → kn ns (t1.getD l' 0) = kn ns (t2.getD l' 0)) ⟨none, rfl, rfl, fun l' h => by omega⟩ ?_ ?_
    · rintro i σ H2 hi ⟨v3, rfl, rfl, hb⟩
      have hi' : i < t1.length := by rw [← en]; exact hi
      have e0 : 0 + (i : Int) = (i : Int) := Int.zero_add _
      obtain ⟨a, ea⟩ : ∃ a, t1[i]? = some a := ⟨t1[i], by simp [hi']⟩
      obtain ⟨b, eb⟩ : ∃ b, t2[i]? = some b := ⟨t2[i]'(by omega), by simp⟩
      have ra := r1 a (List.mem_of_getElem? ea)
      have rb := r2 b (List.mem_of_getElem? eb)
      obtain ⟨na, ena⟩ := some_at ns a ra.1 ra.2
      obtain ⟨nb, enb⟩ := some_at ns b rb.1 rb.2
      obtain ⟨u, eu, nu⟩ := hN.get ena
      obtain ⟨v, ev, nv⟩ := hN.get enb
      have ka : kn ns (t1.getD i 0) = na := by rw [getD_of ea]; exact getD_of ena
      have kb : kn ns (t2.getD i 0) = nb := by rw [getD_of eb]; exact getD_of enb
      refine ⟨fun bb H' => bb = !decide (na = nb) ∧ H' = H2, ?_, ?_⟩
      · refine ⟨_, rfl, _, rfl, _, rfl, z1, _, _, _, rfl, rfl, SqT.of h1, by rw [e0]; exact atI_nat (by rw [List.getElem?_map, ea]; rfl), c, _, _, _, rfl, rfl, SqL.of hc, atI_int ra.1 eu, _, rfl, _, rfl, _, rfl, z2, _, _, _, rfl, rfl, SqT.of h2, by rw [e0]; exact atI_nat (by rw [List.getElem?_map, eb]; rfl), c, _, _, _, rfl, rfl, SqL.of hc, atI_int rb.1 ev, ?_⟩
        rcases uni_eq hU (List.mem_of_getElem? eu) (List.mem_of_getElem? ev) nu nv with ⟨p, q, rfl, rfl, hpq⟩ | ⟨rfl, rfl⟩
        · refine ⟨rfl, _, rfl, ?_, rfl⟩
          congr 1
          exact decide_eq_decide.mpr ⟨fun z => hpq.mp (by injection z), fun z => by rw [hpq.mpr z]⟩
        · refine ⟨rfl, _, rfl, ?_, rfl⟩
          congr 1
          exact decide_eq_decide.mpr ⟨fun z => by injection z, fun z => by rw [z]⟩
      rintro bb H' ⟨hbb, hHH⟩
      rw [hHH]
      clear hHH H'
      rw [hbb]
      by_cases e : na = nb
      · rw [decide_eq_true e]
        refine iteF ?_
        refine ⟨_, rfl, rfl, fun l' hl' => ?_⟩
        by_cases hlt : l' < i
        · exact hb l' hlt
        · have : l' = i := by omega
          subst this
          rw [ka, kb, e]
      · rw [decide_eq_false e]
        refine iteT ?_
        refine ⟨_, rfl, ?_⟩
        rw [e0]
        exact k i hi' (by rw [ka, kb]; exact e) hb
    · rintro σ H2 ⟨v3, rfl, rfl, hb⟩
      rw [en] at hb
      exact absurd (hb lx lx1) lx2
end
end K22
namespace K22
open PySem L2 K20 K21 K60 K23

abbrev nRp : List Str := ["machine", "one", "other", "rooms", "found", "kinds", "alike", "here", "there", "run", "letter"]
theorem cut_at {rs : Rms} {many x y : Int} : ∀ L : Nat, ∃ a, a ≤ L ∧ (∀ j, j < a → Eqk rs many j x y) ∧ (a < L → ¬ Eqk rs many a x y)
  | 0 => ⟨0, Nat.le_refl _, fun j hj => absurd hj (Nat.not_lt_zero _), fun h => absurd h (Nat.not_lt_zero _)⟩
  | L + 1 => by
    obtain ⟨a, h1, h2, h3⟩ := cut_at (rs := rs) (many := many) (x := x) (y := y) L
    by_cases e : a = L
    · subst e
      by_cases hq : Eqk rs many a x y
      · refine ⟨a + 1, Nat.le_refl _, fun j hj => ?_, fun h => absurd h (Nat.lt_irrefl _)⟩
        by_cases hja : j < a
        · exact h2 j hja
        · have : j = a := by omega
          subst this
          exact hq
      · exact ⟨a, by omega, h2, fun _ => hq⟩
    · exact ⟨a, by omega, h2, fun _ => h3 (by omega)⟩
def spRp : Sp := fun vs H Q _ => ∃ (m : Addr) (many x y : Int) (rs : Rms), vs = [.ref m, .int x, .int y] ∧ MAt H m many rs ∧ Good many rs ∧ Inr rs x ∧ Inr rs y ∧
  ∀ (v : V) (H' : Hp), Same H H' → Res H' rs rs many x y v → Q v H'
section
variable {P : Program} {w : World} {K : PySem.W.Frag} {mg : Str → Option Value} {base : Heap}
theorem scRp : FnScope nRp ["machine", "one", "other"] (defScope sRp) := ⟨rfl, rfl, rfl, by decide +kernel, rfl, by decide +kernel, by decide +kernel⟩
def scopeRp : Scope := { kind := .function, names := [(".0", .local), ("kinds", .local), ("one", .free), ("other", .free)], isGenerator := false, isCoroutine := false, more := [] }
theorem scRp1 : BlkScope (defScope sRp) nRp ["kinds"] ["one", "other"] [1, 2] scopeRp := ⟨rfl, by decide +kernel, by decide +kernel, by decide +kernel, rfl, by decide +kernel, by decide +kernel⟩
theorem ok_rp {f fF fK fL : Addr} {fd fdF fdK fdL : FuncData} (F : Fun K "rooms_part" "rooms_part" sRp f fd) (T : Txt mg)
    (FF : Fun K "finer_kinds" "finer_kinds" sFk fF fdF) (bF : Binds K fdF ["rooms", "kinds"] []) (gF : mg "finer_kinds" = some (.ref fF))
    (FK : Fun K "kinds_by_length" "kinds_by_length" sKl fK fdK) (bK : Binds K fdK ["rooms"] []) (gK : mg "kinds_by_length" = some (.ref fK))
    (FL : Fun K "parting_letter" "parting_letter" sPl fL fdL) (bL : Binds K fdL ["one", "other", "kinds"] []) (gL : mg "parting_letter" = some (.ref fL)) : FnOk P w K mg base CX0 3 f fd ["machine", "one", "other"] spRp := by
  have GK : FnOk P w K mg base CX0 2 fK fdK ["rooms"] spKl := ok_kl FK T FF bF gF
  have GL : FnOk P w K mg base CX0 1 fL fdL ["one", "other", "kinds"] spPl := ok_pl FL T
  refine F.ok scRp (fun vs H Q E h => ?_) (fun cdv A outer s H vs Q E hr h => ?_)
  · obtain ⟨m, many, x, y, rs, rfl, _⟩ := h
    rfl
  · obtain ⟨m, many, x, y, rs, rfl, M, G, hx, hy, kR⟩ := h
    have kN : ∀ H', Same H H' → Bi rs rs many x y → Q .non H' := fun H' s hb => kR .non H' s (.inl ⟨rfl, hb⟩)
    have kS : ∀ (p : Addr) (run : List Int) (H' : Hp), Same H H' → H' p = some (.tup (run.map V.int)) → First rs rs many x y run → run.length ≤ 100 → Q (.ref p) H' := fun p run H' s hp hf hl => kR (.ref p) H' s (.inr ⟨p, run, rfl, hp, hf, by omega⟩)
    obtain ⟨p, qs, m1, m2, m3⟩ := id M
    have gle := G.le
    have gmn := G.mn
    have hr1 : Room 1 _ := hr.mono (by decide)
    refine ⟨_, pss_cons (ps_set (i := 3) scRp.nd rfl (Or.inl rfl) (pe_ix ix_tup (pv 0) pe_int (fun _ _ => rfl)))
      (pss_cons (ps_set (i := 4) scRp.nd rfl (Or.inl rfl) (pe_call GK hr rfl gK FK.kp bK .nil pass0 (pa_cons (pv 3) pa_nil)))
      (pss_cons (ps_setlc (i := 6) scRp1 rfl rfl rfl (pi_list (pv 4)) (fun fp C s1 H1 => pg_name (i := 0) scRp1.nd rfl (Or.inl rfl)) (fun fp C s1 H1 => pts_one (pt_cut (pt_cmpR op_eq (pe_ix (r := rIxL K) ix_list (pv 0) (pv 1) (fun _ _ => rfl)) (pe_ix (r := rIxL K) ix_list (pv 0) (pv 2) (fun _ _ => rfl)) (nomark _)))) (fun fp C s1 H1 => pv 0) scRp.nd rfl rfl rfl)
      (pss_cons (ps_if (pt_cmpR op_eq (pe_callB call_len_seq (by rfl) T.len PySem.boot_len (pa_cons (pv 6) pa_nil)) (pe_callB call_len_seq (by rfl) T.len PySem.boot_len (pa_cons (pv 4) pa_nil)) (nomark _)) (pss_one (ps_ret pe_non)) pss_nil)
      (pss_cons (ps_set (i := 7) scRp.nd rfl (Or.inl rfl) (pv 1))
      (pss_cons (ps_set (i := 8) scRp.nd rfl (Or.inl rfl) (pv 2))
      (pss_cons (ps_set (i := 9) scRp.nd rfl (Or.inl rfl) (pe_tup pa_nil))
      (pss_cons (ps_for PassesOwn.never rfl (pi_rev rfl T.rev (pa_cons (pv 6) pa_nil)) (pg_name (i := 5) scRp.nd rfl (Or.inl rfl))
        (pss_cons (ps_set (i := 10) scRp.nd rfl (Or.inl rfl) (pe_call GL hr1 rfl gL FL.kp bL .nil pass0 (pa_cons (pe_ix ix_tup (pe_ix ix_tup (pv 3) (pv 7) (fun _ _ => rfl)) pe_int (fun _ _ => rfl)) (pa_cons (pe_ix ix_tup (pe_ix ix_tup (pv 3) (pv 8) (fun _ _ => rfl)) pe_int (fun _ _ => rfl)) (pa_cons (pv 5) pa_nil)))))
        (pss_cons (ps_set (i := 9) scRp.nd rfl (Or.inl rfl) (pe_op op_catA (pv 9) (pe_tup (pa_cons (pv 10) pa_nil))))
        (pss_cons (ps_set (i := 7) scRp.nd rfl (Or.inl rfl) (pe_ix ix_tup (pe_ix ix_tup (pe_ix ix_tup (pv 3) (pv 7) (fun _ _ => rfl)) pe_int (fun _ _ => rfl)) (pv 10) (fun _ _ => rfl)))
        (pss_one (ps_set (i := 8) scRp.nd rfl (Or.inl rfl) (pe_ix ix_tup (pe_ix ix_tup (pe_ix ix_tup (pv 3) (pv 8) (fun _ _ => rfl)) pe_int (fun _ _ => rfl)) (pv 10) (fun _ _ => rfl))))))))
      (pss_one (ps_ret (pv 9)))))))))), ?_⟩
    refine ⟨_, rfl, m, _, _, _, rfl, rfl, SqT.of m1, rfl, ?_⟩
    refine ⟨_, rfl, p, qs, many, rs, rfl, m2, m3, G, fun lf cs H1 s1 hLf LW ⟨cpos, cle⟩ st => ?_⟩
    obtain ⟨a, al, ae, an⟩ := cut_at (rs := rs) (many := many) (x := x) (y := y) cs.length
    have fl : (cs.map V.ref).length = cs.length := List.length_map _
    -- the lengths at which both are alike
    refine ⟨_, rfl, lf, rfl, ⟨_, SqL.of hLf⟩, fun D hD => ?_⟩
    refine lc_list (K := K) (a := lf) (xs := cs.map V.ref) (fun i ys H2 => Same H1 H2 ∧ H2 D = some (.lst ys) ∧ ys = (cs.take (min i a)).map V.ref) (Nat.le_of_lt (small1000 (by omega)))
      ⟨(Same.refl H1).upd_free hD, upd_same, by rw [Nat.zero_min]; rfl⟩ (fun i ys H2 h => by rw [h.2.2, List.length_map, List.length_take]; omega) (fun i ys H2 h => SqL.of (h.1 _ _ hLf)) ?_ ?_
    · rintro i ys H2 v N MM hv ⟨u1, u2, u3⟩ hN' hM
      rw [List.getElem?_map] at hv
      cases ec : cs[i]? with
      | none => rw [ec] at hv; cases hv
      | some c =>
        rw [ec] at hv
        cases hv
        have hi : i < cs.length := (List.getElem?_eq_some_iff.mp ec).1
        obtain ⟨ks, ns, hc, hN, Lc, hU⟩ := LW i c ec
        have nl := Lc.len
        obtain ⟨na, ena⟩ := some_at ns x hx.1 (by rw [nl]; exact hx.2)
        obtain ⟨nb, enb⟩ := some_at ns y hy.1 (by rw [nl]; exact hy.2)
        obtain ⟨uu, eu, nu⟩ := hN.get ena
        obtain ⟨vv, ev, nv⟩ := hN.get enb
        have ka : kn ns x = na := getD_of ena
        have kb : kn ns y = nb := getD_of enb
        have hiff := Lc.iff x y hx hy
        rw [ka, kb] at hiff
        refine ⟨fun bb H' => bb = decide (na = nb) ∧ H' = H2, ?_, ?_⟩
        · refine ⟨_, rfl, _, rfl, c, _, _, _, rfl, rfl, SqL.of (u1 _ _ hc), atI_int hx.1 eu, _, rfl, _, rfl, c, _, _, _, rfl, rfl, SqL.of (u1 _ _ hc), atI_int hy.1 ev, ?_⟩
          rcases uni_eq hU (List.mem_of_getElem? eu) (List.mem_of_getElem? ev) nu nv with ⟨p, q, rfl, rfl, hpq⟩ | ⟨rfl, rfl⟩
          · refine ⟨rfl, _, rfl, ?_, rfl⟩
            exact decide_eq_decide.mpr ⟨fun z => hpq.mp (by injection z), fun z => by rw [hpq.mpr z]⟩
          · refine ⟨rfl, _, rfl, ?_, rfl⟩
            exact decide_eq_decide.mpr ⟨fun z => by injection z, fun z => by rw [z]⟩
        rintro bb H' ⟨hbb, hHH⟩
        rw [hHH, hbb]
        clear hHH H'
        by_cases e : i < a
        · have eq : na = nb := hiff.mpr (ae i e)
          rw [decide_eq_true eq]
          refine iteT ?_
          refine ⟨_, rfl, hN' _ H2 u2 ⟨u1.upd_free hD, upd_same, ?_⟩⟩
          rw [u3, Nat.min_eq_left (by omega), Nat.min_eq_left (by omega), List.take_add_one, ec, List.map_append]
          rfl
        · have neq : ¬ na = nb := fun z => an (by omega) (eqk_le (hiff.mp z) (by omega))
          rw [decide_eq_false neq]
          refine iteF ?_
          refine hM H2 ⟨u1, u2, ?_⟩
          rw [u3, Nat.min_eq_right (by omega), Nat.min_eq_right (by omega)]
    rintro ys H2 ⟨u1, u2, u3⟩
    rw [fl, Nat.min_eq_right al] at u3
    subst u3
    have t2 : Same H H2 := s1.trans u1
    have tl : ((cs.take a).map V.ref).length = a := by rw [List.length_map, List.length_take]; omega
    refine ⟨_, rfl, D, _, rfl, .inl (SqL.of u2), _, rfl, lf, _, rfl, .inl (SqL.of (u1 _ _ hLf)), rfl, _, rfl, ?_⟩
    by_cases e : a = cs.length
    · rw [decide_eq_true (show V.int ((((cs.take a).map V.ref).length : Nat) : Int) = V.int (((cs.map V.ref).length : Nat) : Int) by rw [tl, fl, e])]
      refine iteT ?_
      obtain ⟨c, ec⟩ : ∃ c, cs[cs.length - 1]? = some c := ⟨cs[cs.length - 1], by simp [cpos]⟩
      obtain ⟨ks, ns, hc, hN, Lc, hU⟩ := LW _ c ec
      have C : Cls rs many ns := Lc.cls G st
      exact kN H2 t2 ((C.iff x y hx hy).mp ((Lc.iff x y hx hy).mpr (ae _ (by omega))))
    · have ne : ¬ (V.int ((((cs.take a).map V.ref).length : Nat) : Int) = V.int (((cs.map V.ref).length : Nat) : Int)) := fun z => by
        injection z with z
        omega
      rw [decide_eq_false ne]
      refine iteF ?_
      refine ⟨_, rfl, ?_⟩
      refine ⟨_, rfl, ?_⟩
      refine ⟨Nat.zero_le _, fun p0 hp0 => ?_⟩
      have w3 : Same H2 (upd H2 p0 (.tup [])) := (Same.refl H2).upd_free hp0
      have P0 : Pre rs many a x y 0 x y [] := ⟨hx, hy, an (by omega), fun h => ae _ (by omega), fun rest h => h⟩
      refine ⟨_, rfl, D, _, rfl, SqL.of (w3 _ _ u2), ?_⟩
      refine for_rev (K := K) (a := D) (xs := (cs.take a).map V.ref) (fun i σ H3 => ∃ (here there : Int) (rr : List Int) (pr : Addr) (v5 v10 : Option V), σ = [some (.ref m), some (.int x), some (.int y), some (.ref p), some (.ref lf), v5, some (.ref D), some (.int here), some (.int there), some (.ref pr), v10] ∧ Same H2 H3 ∧ H3 pr = some (.tup (rr.map V.int)) ∧ Pre rs many a x y i here there rr ∧ rr.length = i)
        ⟨x, y, [], p0, none, none, rfl, w3, upd_same, P0, rfl⟩ (fun i σ H3 _ ⟨_, _, _, _, _, _, _, s3, _⟩ => SqL.of (s3 _ _ u2)) ?_ ?_
      · rintro i v σ H3 hv hi ⟨here, there, rr, pr, v5, v10, rfl, s3, hpr, PP, hrl⟩
        rw [tl] at hv hi
        rw [List.getElem?_map, List.getElem?_take_of_lt (by omega)] at hv
        cases ec : cs[a - 1 - i]? with
        | none => rw [ec] at hv; cases hv
        | some c =>
          rw [ec] at hv
          cases hv
          obtain ⟨ks, ns, hc, hN, Lc, hU⟩ := LW _ c ec
          have nl := Lc.len
          have ei : a - 1 - i = a - i - 1 := by omega
          rw [ei] at Lc
          have t3 : Same H H3 := t2.trans s3
          have hh := PP.hx
          have ht := PP.hy
          obtain ⟨r, er⟩ := some_at rs here hh.1 hh.2
          obtain ⟨r', er'⟩ := some_at rs there ht.1 ht.2
          obtain ⟨q, z, f1, f2, f3⟩ := (m3.same t3).2 _ _ er
          obtain ⟨q', z', g1, g2, g3⟩ := (m3.same t3).2 _ _ er'
          have hrow := G.row r (List.mem_of_getElem? er)
          have hrow' := G.row r' (List.mem_of_getElem? er')
          have enx : nx rs here = r.2 := by unfold nx; rw [getD_of er]
          have enx' : nx rs there = r'.2 := by unfold nx; rw [getD_of er']
          have lev : ∀ l : Int, 0 ≤ l → l < many → (kn ns (r.2.getD l.toNat 0) = kn ns (r'.2.getD l.toNat 0) ↔ Eqk rs many (a - i - 1) (nextOf rs here l) (nextOf rs there l)) := fun l l0 l1 => by
            have q := Lc.iff _ _ (next_in G hh.1 hh.2 l0 l1) (next_in G ht.1 ht.2 l0 l1)
            rw [nextOf_nx, nextOf_nx, enx, enx'] at q
            rw [nextOf_nx, nextOf_nx, enx, enx']
            exact q
          obtain ⟨lx, lx0, lx1, lxn⟩ := PP.some hi
          refine ⟨_, rfl, _, rfl, p, _, _, _, rfl, rfl, SqT.of (t3 _ _ m2), atI_int hh.1 (by rw [List.getElem?_map, f1]; rfl), q, _, _, _, rfl, rfl, SqT.of f2, rfl, _, rfl, _, rfl, p, _, _, _, rfl, rfl, SqT.of (t3 _ _ m2), atI_int ht.1 (by rw [List.getElem?_map, g1]; rfl), q', _, _, _, rfl, rfl, SqT.of g2, rfl, _, rfl, z, z', c, r.2, r'.2, ks, ns, rfl, f3, g3, s3 _ _ (u1 _ _ hc), hN, hU, by omega, by omega, fun t ht' => ⟨(hrow.2 t ht').1, by rw [nl]; exact (hrow.2 t ht').2⟩, fun t ht' => ⟨(hrow'.2 t ht').1, by rw [nl]; exact (hrow'.2 t ht').2⟩, ⟨lx.toNat, by omega, fun z => lxn ((lev lx lx0 lx1).mp z)⟩, fun l l1 ln lb => ?_⟩
          have hlm : (l : Int) < many := by omega
          obtain ⟨t, et⟩ : ∃ t, r.2[l]? = some t := ⟨r.2[l], by simp [l1]⟩
          obtain ⟨t', et'⟩ : ∃ t, r'.2[l]? = some t := ⟨r'.2[l]'(by omega), by simp⟩
          have nt : nextOf rs here (l : Int) = t := by rw [nextOf_nx, enx, Int.toNat_natCast, getD_of et]
          have nt' : nextOf rs there (l : Int) = t' := by rw [nextOf_nx, enx', Int.toNat_natCast, getD_of et']
          have PN := PP.step G hi (l := (l : Int)) (by omega) hlm (fun z => ln (by have := (lev (l : Int) (by omega) hlm).mpr z; rw [Int.toNat_natCast] at this; exact this)) (fun l' h0 h1 => (lev l' h0 (by omega)).mp (lb l'.toNat (by omega)))
          rw [nt, nt'] at PN
          refine ⟨_, rfl, _, rfl, (by show 1 ≤ sizeLine; decide), fun pl hpl => ?_⟩
          have w4 : Same H3 (upd H3 pl (.tup [.int (l : Int)])) := (Same.refl H3).upd_free hpl
          refine ⟨pr, pl, _, _, rfl, rfl, w4 _ _ hpr, upd_same, Nat.le_of_lt (small1000 (by rw [List.length_map]; simp only [List.length_cons, List.length_nil]; omega)), fun pn H5 s5 hpn => ?_⟩
          have s35 : Same H3 H5 := w4.trans s5
          have t5 : Same H H5 := t3.trans s35
          refine ⟨_, rfl, _, rfl, p, _, _, _, rfl, rfl, SqT.of (t5 _ _ m2), atI_int hh.1 (by rw [List.getElem?_map, f1]; rfl), q, _, _, _, rfl, rfl, SqT.of (s35 _ _ f2), rfl, _, rfl, z, _, _, _, rfl, rfl, SqT.of (s35 _ _ f3), atI_nat (by rw [List.getElem?_map, et]; rfl), ?_⟩
          refine ⟨_, rfl, _, rfl, p, _, _, _, rfl, rfl, SqT.of (t5 _ _ m2), atI_int ht.1 (by rw [List.getElem?_map, g1]; rfl), q', _, _, _, rfl, rfl, SqT.of (s35 _ _ g2), rfl, _, rfl, z', _, _, _, rfl, rfl, SqT.of (s35 _ _ g3), atI_nat (by rw [List.getElem?_map, et']; rfl), ?_⟩
          exact ⟨t, t', rr ++ [(l : Int)], pn, _, _, rfl, s3.trans s35, by rw [hpn, List.map_append]; rfl, PN, by rw [List.length_append, hrl]; rfl⟩
      · rintro σ H3 ⟨here, there, rr, pr, v5, v10, rfl, s3, hpr, PP, hrl⟩
        rw [tl] at PP hrl
        exact ⟨_, rfl, kS pr rr H3 (t2.trans s3) hpr (PP.done.fst ae) (by omega)⟩
end
end K22
namespace K22
open PySem L2 K20 K21 K60 K23

theorem morph2 {r1 r2 : Rms} {many : Int} (f : Int → Int) (G1 : Good many r1) (hg : ∀ x, Inr r1 x → gd r1 x = gd r2 (f x)) (hn : ∀ x, Inr r1 x → ∀ l, 0 ≤ l → l < many → f (nextOf r1 x l) = nextOf r2 (f x) l) :
    ∀ (run : List Int) (x : Int), Inr r1 x → Lts many run → gd r1 (walkM r1 x run) = gd r2 (walkM r2 (f x) run)
  | [], x, hx, _ => hg x hx
  | l :: run, x, hx, hl => by
    have ih := morph2 f G1 hg hn run (nextOf r1 x l) (next_in G1 hx.1 hx.2 hl.head.1 hl.head.2) hl.tail
    rw [hn x hx l hl.head.1 hl.head.2] at ih
    exact ih
def mvR (n : Int) (r : Bool × List Int) : Bool × List Int := (r.1, r.2.map (· + n))
def sumM (r1 r2 : Rms) : Rms := r1 ++ r2.map (mvR r1.length)
section
variable {r1 r2 : Rms} {many : Int}
theorem sum_len : (sumM r1 r2).length = r1.length + r2.length := by unfold sumM; rw [List.length_append, List.length_map]
theorem sum_l {i : Nat} {r : Bool × List Int} (h : r1[i]? = some r) : (sumM r1 r2)[i]? = some r := by
  unfold sumM
  rw [List.getElem?_append_left (List.getElem?_eq_some_iff.mp h).1]
  exact h
theorem sum_r {i : Nat} {r : Bool × List Int} (h : r2[i]? = some r) : (sumM r1 r2)[i + r1.length]? = some (mvR r1.length r) := by
  unfold sumM
  rw [List.getElem?_append_right (by omega), Nat.add_sub_cancel, List.getElem?_map, h]
  rfl
theorem sum_good (G1 : Good many r1) (G2 : Good many r2) (h : r1.length + r2.length ≤ 12) : Good many (sumM r1 r2) := by
  have p1 := G1.pos
  refine ⟨G1.mn, by rw [sum_len]; omega, by rw [sum_len]; exact Nat.le_trans h (by decide), fun r hr => ?_⟩
  rw [sum_len]
  rcases List.mem_append.mp hr with hr | hr
  · have q := G1.row r hr
    exact ⟨q.1, fun n hn => ⟨(q.2 n hn).1, by have := (q.2 n hn).2; omega⟩⟩
  · obtain ⟨r0, h0, e⟩ := List.mem_map.mp hr
    subst e
    have q := G2.row r0 h0
    refine ⟨by unfold mvR; rw [List.length_map]; exact q.1, fun n hn => ?_⟩
    obtain ⟨t, ht, e⟩ := List.mem_map.mp hn
    have := q.2 t ht
    have e' : t + (r1.length : Int) = n := e
    omega
theorem sum_walk1 (G1 : Good many r1) (run : List Int) (x : Int) (hx : Inr r1 x) (hr : Lts many run) : gd r1 (walkM r1 x run) = gd (sumM r1 r2) (walkM (sumM r1 r2) x run) := by
  refine morph2 (r2 := sumM r1 r2) id G1 (fun x hx => ?_) (fun x hx l l0 l1 => ?_) run x hx hr
  · obtain ⟨r, er⟩ := some_at r1 x hx.1 hx.2
    unfold gd
    rw [getD_of er, show (id x).toNat = x.toNat from rfl, getD_of (sum_l er)]
  · obtain ⟨r, er⟩ := some_at r1 x hx.1 hx.2
    show nextOf r1 x l = nextOf (sumM r1 r2) x l
    unfold nextOf
    rw [getD_of er, getD_of (sum_l er)]
theorem sum_walk2 (G2 : Good many r2) (run : List Int) (y : Int) (hy : Inr r2 y) (hr : Lts many run) : gd r2 (walkM r2 y run) = gd (sumM r1 r2) (walkM (sumM r1 r2) (y + r1.length) run) := by
  have tn : ∀ x : Int, 0 ≤ x → (x + (r1.length : Int)).toNat = x.toNat + r1.length := fun x h => by omega
  refine morph2 (r2 := sumM r1 r2) (fun x => x + (r1.length : Int)) G2 (fun x hx => ?_) (fun x hx l l0 l1 => ?_) run y hy hr
  · obtain ⟨r, er⟩ := some_at r2 x hx.1 hx.2
    unfold gd
    rw [getD_of er, tn x hx.1, getD_of (sum_r er)]
    rfl
  · obtain ⟨r, er⟩ := some_at r2 x hx.1 hx.2
    have hl := (G2.row r (List.mem_of_getElem? er)).1
    obtain ⟨t, et⟩ := some_at r.2 l l0 (by omega)
    show nextOf r2 x l + (r1.length : Int) = nextOf (sumM r1 r2) (x + (r1.length : Int)) l
    unfold nextOf
    rw [getD_of er, tn x hx.1, getD_of (sum_r er), getD_of et]
    exact (getD_of (by unfold mvR; rw [List.getElem?_map, et]; rfl)).symm
theorem sum_first (G1 : Good many r1) (G2 : Good many r2) {run : List Int} (h : First (sumM r1 r2) (sumM r1 r2) many 0 r1.length run) : First r1 r2 many 0 0 run := by
  have p1 := G1.pos
  have p2 := G2.pos
  have i1 : Inr r1 0 := ⟨Int.le_refl 0, by omega⟩
  have i2 : Inr r2 0 := ⟨Int.le_refl 0, by omega⟩
  have w2 : ∀ run, Lts many run → gd r2 (walkM r2 0 run) = gd (sumM r1 r2) (walkM (sumM r1 r2) (r1.length : Int) run) := fun run hr => by
    have := sum_walk2 (r1 := r1) G2 run 0 i2 hr
    rw [Int.zero_add] at this
    exact this
  refine ⟨h.lts, ?_, fun run' hr hd => h.min run' hr ?_⟩
  · rw [sum_walk1 (r2 := r2) G1 run 0 i1 h.lts, w2 run h.lts]
    exact h.ne
  · rw [← sum_walk1 (r2 := r2) G1 run' 0 i1 hr, ← w2 run' hr]
    exact hd
theorem sum_bi (G1 : Good many r1) (G2 : Good many r2) (h : Bi (sumM r1 r2) (sumM r1 r2) many 0 r1.length) : Bi r1 r2 many 0 0 := fun run hr => by
  have p1 := G1.pos
  have p2 := G2.pos
  have i2 := sum_walk2 (r1 := r1) G2 run 0 ⟨Int.le_refl 0, by omega⟩ hr
  rw [Int.zero_add] at i2
  rw [sum_walk1 (r2 := r2) G1 run 0 ⟨Int.le_refl 0, by omega⟩ hr, i2]
  exact h run hr
end
theorem rows_snoc {H : Hp} {qs : List Addr} {rs : Rms} {r : Bool × List Int} {q z : Addr} (h : RowsAt H qs rs) (h1 : H q = some (.tup [.bl r.1, .ref z])) (h2 : H z = some (.tup (r.2.map V.int))) : RowsAt H (qs ++ [q]) (rs ++ [r]) := by
  refine ⟨by rw [List.length_append, List.length_append, h.1]; rfl, fun i r' er => ?_⟩
  by_cases hlt : i < rs.length
  · rw [List.getElem?_append_left hlt] at er
    obtain ⟨q', z', g1, g2, g3⟩ := h.2 i r' er
    exact ⟨q', z', by rw [List.getElem?_append_left (by rw [h.1]; exact hlt)]; exact g1, g2, g3⟩
  · have hi2 := (List.getElem?_eq_some_iff.mp er).1
    rw [List.length_append, List.length_singleton] at hi2
    have ei : i = rs.length := by omega
    subst ei
    rw [List.getElem?_append_right (Nat.le_refl _), Nat.sub_self] at er
    cases er
    refine ⟨q, z, ?_, h1, h2⟩
    rw [List.getElem?_append_right (by rw [h.1]; exact Nat.le_refl _), h.1, Nat.sub_self]
    rfl
theorem rows_tsame {H H' : Hp} {qs : List Addr} {rs : Rms} (h : RowsAt H qs rs) (s : TSame H H') : RowsAt H' qs rs := ⟨h.1, fun i r e => by
  obtain ⟨q, z, h1, h2, h3⟩ := h.2 i r e
  exact ⟨q, z, h1, s _ _ h2, s _ _ h3⟩⟩
theorem rows_app {H : Hp} : ∀ {rs2 : Rms} {qs1 qs2 : List Addr} {rs1 : Rms}, RowsAt H qs1 rs1 → RowsAt H qs2 rs2 → RowsAt H (qs1 ++ qs2) (rs1 ++ rs2) := by
  intro rs2 qs1 qs2 rs1 h1 h2
  refine ⟨by rw [List.length_append, List.length_append, h1.1, h2.1], fun i r e => ?_⟩
  by_cases hlt : i < rs1.length
  · rw [List.getElem?_append_left hlt] at e
    obtain ⟨q, z, g1, g2, g3⟩ := h1.2 i r e
    exact ⟨q, z, by rw [List.getElem?_append_left (by rw [h1.1]; exact hlt)]; exact g1, g2, g3⟩
  · rw [List.getElem?_append_right (by omega)] at e
    obtain ⟨q, z, g1, g2, g3⟩ := h2.2 _ r e
    exact ⟨q, z, by rw [List.getElem?_append_right (by rw [h1.1]; omega), h1.1]; exact g1, g2, g3⟩
def spMv : Sp := fun vs H Q _ => ∃ (q z : Addr) (far : Int) (b : Bool) (ts : List Int), vs = [.ref q, .int far] ∧ H q = some (.tup [.bl b, .ref z]) ∧ H z = some (.tup (ts.map V.int)) ∧ ts.length ≤ 8 ∧ ∀ (m zt : Addr) (H' : Hp), Same H H' → H' m = some (.tup [.bl b, .ref zt]) → H' zt = some (.tup ((ts.map (· + far)).map V.int)) → Q (.ref m) H'
def spMp : Sp := fun vs H Q _ => ∃ (m1 m2 : Addr) (many : Int) (r1 r2 : Rms), vs = [.ref m1, .ref m2] ∧ MAt H m1 many r1 ∧ MAt H m2 many r2 ∧ Good many r1 ∧ Good many r2 ∧ r1.length + r2.length ≤ 12 ∧
  ∀ (v : V) (H' : Hp), Same H H' → Res H' r1 r2 many 0 0 v → Q v H'
section
variable {P : Program} {w : World} {K : PySem.W.Frag} {mg : Str → Option Value} {base : Heap}
theorem scMv : FnScope ["room", "far"] ["room", "far"] (defScope sMv) := ⟨rfl, rfl, rfl, by decide +kernel, rfl, by decide +kernel, by decide +kernel⟩
def scopeMv : Scope := { kind := .function, names := [(".0", .local), ("there", .local), ("far", .free)], isGenerator := false, isCoroutine := false, more := [] }
theorem scMv1 : BlkScope (defScope sMv) ["room", "far"] ["there"] ["far"] [1] scopeMv := ⟨rfl, by decide +kernel, by decide +kernel, by decide +kernel, rfl, by decide +kernel, by decide +kernel⟩
theorem ok_mv {f : Addr} {fd : FuncData} (F : Fun K "moved_room" "moved_room" sMv f fd) (T : Txt mg) : FnOk P w K mg base CX0 1 f fd ["room", "far"] spMv := by
  refine F.ok scMv (fun vs H Q E h => ?_) (fun cdv A outer s H vs Q E hr h => ?_)
  · obtain ⟨q, z, far, b, ts, rfl, _⟩ := h
    rfl
  · obtain ⟨q, z, far, b, ts, rfl, hq, hz, h8, k⟩ := h
    refine ⟨_, pss_one (ps_ret (pe_tup (pa_cons (pe_ix ix_tup (pv 0) pe_int (fun _ _ => rfl)) (pa_cons (pe_callTy call_tuple_of (by rfl) T.tuple PyProof.Rows.boot_tuple (pa_cons
      (pe_lc scMv1 rfl rfl rfl (pi_tup (pe_ix ix_tup (pv 0) pe_int (fun _ _ => rfl))) (fun fp C s1 H1 => pg_name (i := 0) scMv1.nd rfl (Or.inl rfl)) (fun fp C s1 H1 => pts_nil) (fun fp C s1 H1 => pe_op op_add (pv 0) (pv 1))) pa_nil)) pa_nil)))), ?_⟩
    refine ⟨_, rfl, q, _, _, _, rfl, rfl, SqT.of hq, rfl, _, rfl, q, _, _, _, rfl, rfl, SqT.of hq, rfl, z, rfl, ⟨_, SqT.of hz⟩, fun D hD => ?_⟩
    refine lc_tup (K := K) (a := z) (xs := ts.map V.int) (fun j ys H3 => Same H H3 ∧ H3 D = some (.lst ys) ∧ ys.length = j ∧ ys = ((ts.take j).map (· + far)).map V.int) (Nat.le_of_lt (small1000 (by rw [List.length_map]; omega)))
      ⟨(Same.refl H).upd_free hD, upd_same, rfl, rfl⟩ (fun j ys H3 h => Nat.le_of_eq h.2.2.1) (fun j ys H3 h => SqT.of (h.1 _ _ hz)) ?_ ?_
    · rintro j ys H3 x N M hx ⟨u1, u2, u3, u4⟩ hN' hM
      rw [List.getElem?_map] at hx
      cases et : ts[j]? with
      | none => rw [et] at hx; cases hx
      | some t =>
        rw [et] at hx
        cases hx
        refine ⟨_, rfl, _, rfl, _, _, rfl, rfl, ?_⟩
        refine hN' _ H3 u2 ⟨u1.upd_free hD, upd_same, by rw [List.length_append, List.length_singleton, u3], ?_⟩
        rw [List.take_add_one, et, List.map_append, List.map_append, u4]
        rfl
    · rintro ys H3 ⟨u1, u2, u3, u4⟩
      rw [List.length_map, List.take_of_length_le (Nat.le_refl _)] at u4
      refine ⟨D, _, rfl, .inl ⟨SqL.of u2, fun zt hzt => ?_⟩⟩
      refine ⟨(by show 2 ≤ sizeLine; decide), fun m hm => ?_⟩
      have nzm : zt ≠ m := fun e => by rw [e, upd_same] at hm; cases hm
      have hm3 : H3 m = none := by rw [upd_ne (Ne.symm nzm)] at hm; exact hm
      exact k m zt _ (u1.trans (((Same.refl H3).upd_free hzt).upd_free hm3)) upd_same (by rw [upd_ne nzm, upd_same, u4])
theorem scMp : FnScope ["one", "other", "size", "moved"] ["one", "other"] (defScope sMp) := ⟨rfl, rfl, rfl, by decide +kernel, rfl, by decide +kernel, by decide +kernel⟩
def scopeMp : Scope := { kind := .function, names := [(".0", .local), ("room", .local), ("moved_room", .globalImplicit), ("size", .free)], isGenerator := false, isCoroutine := false, more := [] }
theorem scMp1 : BlkScope (defScope sMp) ["one", "other", "size", "moved"] ["room"] ["size"] [2] scopeMp := ⟨rfl, by decide +kernel, by decide +kernel, by decide +kernel, rfl, by decide +kernel, by decide +kernel⟩
theorem ok_mp {f fF fK fL fR fV : Addr} {fd fdF fdK fdL fdR fdV : FuncData} (F : Fun K "machines_part" "machines_part" sMp f fd) (T : Txt mg)
    (FF : Fun K "finer_kinds" "finer_kinds" sFk fF fdF) (bF : Binds K fdF ["rooms", "kinds"] []) (gF : mg "finer_kinds" = some (.ref fF))
    (FK : Fun K "kinds_by_length" "kinds_by_length" sKl fK fdK) (bK : Binds K fdK ["rooms"] []) (gK : mg "kinds_by_length" = some (.ref fK))
    (FL : Fun K "parting_letter" "parting_letter" sPl fL fdL) (bL : Binds K fdL ["one", "other", "kinds"] []) (gL : mg "parting_letter" = some (.ref fL))
    (FR : Fun K "rooms_part" "rooms_part" sRp fR fdR) (bR : Binds K fdR ["machine", "one", "other"] []) (gR : mg "rooms_part" = some (.ref fR))
    (FV : Fun K "moved_room" "moved_room" sMv fV fdV) (bV : Binds K fdV ["room", "far"] []) (gV : mg "moved_room" = some (.ref fV)) : FnOk P w K mg base CX0 4 f fd ["one", "other"] spMp := by
  have GR : FnOk P w K mg base CX0 3 fR fdR ["machine", "one", "other"] spRp := ok_rp FR T FF bF gF FK bK gK FL bL gL
  have GV : FnOk P w K mg base CX0 1 fV fdV ["room", "far"] spMv := ok_mv FV T
  refine F.ok scMp (fun vs H Q E h => ?_) (fun cdv A outer s H vs Q E hr h => ?_)
  · obtain ⟨m1, m2, many, r1, r2, rfl, _⟩ := h
    rfl
  · obtain ⟨m1, m2, many, r1, r2, rfl, M1, M2, G1, G2, h12, kR⟩ := h
    obtain ⟨p1, q1, a1, a2, a3⟩ := id M1
    obtain ⟨p2, q2, b1, b2, b3⟩ := id M2
    have gp1 := G1.pos
    have gp2 := G2.pos
    have gmn := G1.mn
    have hr1 : Room 1 _ := hr.mono (by decide)
    have hql : (q1.map V.ref).length = r1.length := by rw [List.length_map]; exact a3.1
    have hql2 : (q2.map V.ref).length = r2.length := by rw [List.length_map]; exact b3.1
    refine ⟨_, pss_cons (ps_set (i := 2) scMp.nd rfl (Or.inr rfl) (pe_callB call_len_seq (by rfl) T.len PySem.boot_len (pa_cons (pe_ix ix_tup (pv 0) pe_int (fun _ _ => rfl)) pa_nil)))
      (pss_cons (ps_setlc (i := 3) scMp1 rfl rfl rfl (pi_tup (pe_ix ix_tup (pv 1) pe_int (fun _ _ => rfl))) (fun fp C s1 H1 => pg_name (i := 0) scMp1.nd rfl (Or.inl rfl)) (fun fp C s1 H1 => pts_nil)
        (fun fp C s1 H1 => pe_call GV hr1 rfl gV FV.kp bV .nil pass0 (pa_cons (pv 0) (pa_cons (pv 1) pa_nil))) scMp.nd rfl rfl rfl)
      (pss_one (ps_ret (pe_call GR hr rfl gR FR.kp bR .nil pass0 (pa_cons (pe_tup (pa_cons (pe_ix ix_tup (pv 0) pe_int (fun _ _ => rfl)) (pa_cons (pe_op op_catA (pe_ix ix_tup (pv 0) pe_int (fun _ _ => rfl)) (pe_callTy call_tuple_of (by rfl) T.tuple PyProof.Rows.boot_tuple (pa_cons (pv 3) pa_nil))) pa_nil))) (pa_cons pe_int (pa_cons (pv 2) pa_nil))))))), ?_⟩
    refine ⟨_, rfl, m1, _, _, _, rfl, rfl, SqT.of a1, rfl, p1, _, rfl, .inr (SqT.of a2), ?_⟩
    rw [hql]
    refine ⟨_, rfl, m2, _, _, _, rfl, rfl, SqT.of b1, rfl, p2, rfl, ⟨_, SqT.of b2⟩, fun D hD => ?_⟩
    refine lc_tup (K := K) (a := p2) (xs := q2.map V.ref) (fun j ys H3 => ∃ ps : List Addr, ys = ps.map V.ref ∧ Same H H3 ∧ H3 D = some (.lst ys) ∧ ys.length = j ∧ RowsAt H3 ps ((r2.take j).map (mvR r1.length))) (Nat.le_of_lt (small1000 (by omega)))
      ⟨[], rfl, (Same.refl H).upd_free hD, upd_same, rfl, rfl, fun i r e => by simp at e⟩ (fun j ys H3 ⟨_, _, _, _, h, _⟩ => Nat.le_of_eq h) (fun j ys H3 ⟨_, _, h, _⟩ => SqT.of (h _ _ b2)) ?_ ?_
    · rintro j ys H3 x N MM hx ⟨ps, rfl, u1, u2, u3, u4⟩ hN' hM
      have hj : j < r2.length := by
        have := (List.getElem?_eq_some_iff.mp hx).1
        omega
      obtain ⟨r, er⟩ : ∃ r, r2[j]? = some r := ⟨r2[j], by simp [hj]⟩
      obtain ⟨q, z, e1, e2, e3⟩ := b3.2 j r er
      rw [List.getElem?_map, e1] at hx
      cases hx
      have hrow := G2.row r (List.mem_of_getElem? er)
      refine ⟨_, rfl, _, rfl, q, z, _, r.1, r.2, rfl, u1 _ _ e2, u1 _ _ e3, by omega, fun mq zt H4 s4 h1 h2 => ?_⟩
      have nD : TSame H4 (upd H4 D (.lst (ps.map V.ref ++ [.ref mq]))) := TSame.upd_lst (fun _ _ e => e) (s4 _ _ u2)
      refine hN' _ H4 (s4 _ _ u2) ⟨ps ++ [mq], by rw [List.map_append]; rfl, (u1.trans s4).upd_free hD, upd_same, by rw [List.length_append, List.length_singleton, u3], ?_⟩
      rw [List.take_add_one, er, List.map_append]
      exact rows_snoc (rows_tsame (u4.same s4) nD) (r := mvR r1.length r) (z := zt) (nD _ _ h1) (nD _ _ h2)
    · rintro ys H3 ⟨ps, rfl, u1, u2, u3, u4⟩
      rw [hql2, List.take_of_length_le (Nat.le_refl _)] at u4
      refine ⟨_, rfl, m1, _, _, _, rfl, rfl, SqT.of (u1 _ _ a1), rfl, _, rfl, m1, _, _, _, rfl, rfl, SqT.of (u1 _ _ a1), rfl, _, rfl, D, _, rfl, .inl ⟨SqL.of u2, fun zt hzt => ?_⟩⟩
      have w3 : Same H3 (upd H3 zt (.tup (ps.map V.ref))) := (Same.refl H3).upd_free hzt
      refine ⟨p1, zt, _, _, rfl, rfl, w3 _ _ (u1 _ _ a2), upd_same, Nat.le_of_lt (small1000 (by rw [hql, u3]; omega)), fun pp H5 s5 hpp => ?_⟩
      refine ⟨(by show 2 ≤ sizeLine; decide), fun mm hmm => ?_⟩
      have w5 : Same H5 (upd H5 mm (.tup [.int many, .ref pp])) := (Same.refl H5).upd_free hmm
      have t5 : Same H3 H5 := w3.trans s5
      have t6 := t5.trans w5
      have MS : MAt (upd H5 mm (.tup [.int many, .ref pp])) mm many (sumM r1 r2) := ⟨pp, q1 ++ ps, upd_same, w5 _ _ (by rw [hpp, List.map_append]), rows_app (a3.same (u1.trans t6)) (u4.same t6)⟩
      have GS := sum_good G1 G2 h12
      refine ⟨_, rfl, mm, many, 0, _, _, rfl, MS, GS, ⟨Int.le_refl 0, by rw [sum_len]; omega⟩, ⟨by omega, by rw [sum_len]; omega⟩, fun v H7 s7 hv => ?_⟩
      refine kR v H7 ((u1.trans t6).trans s7) ?_
      rcases hv with ⟨e, hb⟩ | ⟨p, run, e, hp, hf, hl⟩
      · exact .inl ⟨e, sum_bi G1 G2 hb⟩
      · exact .inr ⟨p, run, e, hp, sum_first G1 G2 hf, hl⟩
end
end K22
namespace K22
open PySem L2 K20 K21 K60 K23

abbrev nOt : List Str := ["_law_script", "_law_start", "_law_machine_here", "_law_cell", "_law_many", "_law_rooms", "_law_k", "_law_good", "_law_nexts", "_law_j", "_law_size", "_law_made", "_law_at"]
def spOt (K : PySem.W.Frag) : Sp := fun vs H Q _ => ∃ (a m : Addr) (ns : List Int) (st many : Int) (rs : Rms), vs = [.ref a, .int st, .ref m] ∧ SqL K H a (ns.map V.int) ∧ 0 ≤ st ∧ st ≤ 500 ∧ MAt H m many rs ∧ Good many rs ∧ rs.length ≤ cOt.toNat ∧
  ∀ (m' : Addr) (rs' : Rms) (H' : Hp), Same H H' → MAt H' m' many rs' → Good many rs' → rs'.length ≤ cOt.toNat → Q (.ref m') H'
theorem cut_to (xs : List V) (k : Nat) (h : k ≤ xs.length) : cutV xs none (some (k : Int)) = xs.take k := by
  unfold cutV
  rw [HT.sIx_nat, HT.sIx_none, Nat.min_eq_left h, List.drop_zero, Nat.sub_zero]
theorem cut_from (xs : List V) (k : Nat) (h : k ≤ xs.length) : cutV xs (some (k : Int)) none = xs.drop k := by
  unfold cutV
  rw [HT.sIx_nat, HT.sIx_none, Nat.min_eq_left h, List.take_of_length_le (by rw [List.length_drop]; exact Nat.le_refl _)]
theorem rows_take {H : Hp} {qs : List Addr} {rs : Rms} (h : RowsAt H qs rs) (k : Nat) : RowsAt H (qs.take k) (rs.take k) := by
  refine ⟨by rw [List.length_take, List.length_take, h.1], fun i r e => ?_⟩
  have hi := (List.getElem?_eq_some_iff.mp e).1
  rw [List.length_take] at hi
  rw [List.getElem?_take_of_lt (by omega)] at e
  obtain ⟨q, z, g1, g2, g3⟩ := h.2 i r e
  exact ⟨q, z, by rw [List.getElem?_take_of_lt (by omega)]; exact g1, g2, g3⟩
theorem rows_drop {H : Hp} {qs : List Addr} {rs : Rms} (h : RowsAt H qs rs) (k : Nat) : RowsAt H (qs.drop k) (rs.drop k) := by
  refine ⟨by rw [List.length_drop, List.length_drop, h.1], fun i r e => ?_⟩
  rw [List.getElem?_drop] at e
  obtain ⟨q, z, g1, g2, g3⟩ := h.2 _ r e
  exact ⟨q, z, by rw [List.getElem?_drop]; exact g1, g2, g3⟩
theorem swap_good {many : Int} {rs : Rms} {k : Nat} {r' : Bool × List Int} (G : Good many rs) (hk : k < rs.length) (h1 : (r'.2.length : Int) = many) (h2 : ∀ n ∈ r'.2, 0 ≤ n ∧ n < (rs.length : Int)) : Good many (rs.take k ++ [r'] ++ rs.drop (k + 1)) ∧ (rs.take k ++ [r'] ++ rs.drop (k + 1)).length = rs.length := by
  have hl : (rs.take k ++ [r'] ++ rs.drop (k + 1)).length = rs.length := by
    rw [List.length_append, List.length_append, List.length_take, List.length_drop, List.length_singleton]
    omega
  refine ⟨⟨G.mn, by rw [hl]; exact G.pos, by rw [hl]; exact G.le, fun r hr => ?_⟩, hl⟩
  rw [hl]
  rcases List.mem_append.mp hr with hr | hr
  · rcases List.mem_append.mp hr with hr | hr
    · exact G.row r (List.mem_of_mem_take hr)
    · rw [List.mem_singleton] at hr
      subst hr
      exact ⟨h1, h2⟩
  · exact G.row r (List.mem_of_mem_drop hr)
section
variable {P : Program} {w : World} {K : PySem.W.Frag} {mg : Str → Option Value} {base : Heap}
theorem scOt : FnScope nOt ["_law_script", "_law_start", "_law_machine_here"] (defScope sOt) := ⟨rfl, rfl, rfl, by decide +kernel, rfl, by decide +kernel, by decide +kernel⟩
def scopeOt : Scope := { kind := .function, names := [(".0", .local), ("_law_j", .local), ("_law_cell_at", .globalImplicit), ("_law_at", .free), ("_law_script", .free), ("_law_size", .free)], isGenerator := false, isCoroutine := false, more := [] }
theorem scOt1 : BlkScope (defScope sOt) nOt ["_law_j"] ["_law_at", "_law_script", "_law_size"] [12, 0, 10] scopeOt := ⟨rfl, by decide +kernel, by decide +kernel, by decide +kernel, rfl, by decide +kernel, by decide +kernel⟩
theorem ok_ot {f fC : Addr} {fd fdC : FuncData} (F : Fun K "_law_other" "_law_other" sOt f fd) (T : Txt mg) (FC : Fun K "_law_cell_at" "_law_cell_at" sCe fC fdC) (bC : Binds K fdC ["_law_script", "_law_k"] []) (gC : mg "_law_cell_at" = some (.ref fC)) : FnOk P w K mg base CX0 2 f fd ["_law_script", "_law_start", "_law_machine_here"] (spOt K) := by
  have GC : FnOk P w K mg base CX0 1 fC fdC ["_law_script", "_law_k"] (spCe K) := ok_ce FC T
  refine F.ok scOt (fun vs H Q E h => ?_) (fun cdv A outer s H vs Q E hr h => ?_)
  · obtain ⟨a, m, ns, st, many, rs, rfl, _⟩ := h
    rfl
  · obtain ⟨a, m, ns, st, many, rs, rfl, hS, st0, st1, M, G, h6, k⟩ := h
    obtain ⟨p, qs, m1, m2, m3⟩ := id M
    have gp := G.pos
    have gmn := G.mn
    have zc6 : cOt ≤ 6 ∧ 1 ≤ cOt := by decide
    have zc7 : cOt.toNat ≤ 6 := by decide
    have hql : (qs.map V.ref).length = rs.length := by rw [List.length_map]; exact m3.1
    refine ⟨_, pss_cons (ps_set (i := 3) scOt.nd rfl (Or.inl rfl) (pe_call GC hr rfl gC FC.kp bC .nil pass0 (pa_cons (pv 0) (pa_cons (pv 1) pa_nil))))
      (pss_cons (ps_asg (pv 2) (pg_tup (n := 2) rfl (pgs_cons (pg_name (i := 4) scOt.nd rfl (Or.inl rfl)) (pgs_cons (pg_name (i := 5) scOt.nd rfl (Or.inl rfl)) pgs_nil))))
      (pss_cons (ps_if (pt_cmpR op_eq (pe_op op_mod (pv 3) pe_int) pe_int (nomark _))
        (pss_cons (ps_cut (ps_set (i := 6) scOt.nd rfl (Or.inl rfl) (pe_op op_mod (pe_op op_fdiv (pv 3) pe_int) (pe_callB call_len_seq (by rfl) T.len PySem.boot_len (pa_cons (pv 5) pa_nil)))))
        (pss_cons (ps_asg (pe_ix ix_tup (pv 5) (pv 6) (fun _ _ => rfl)) (pg_tup (n := 2) rfl (pgs_cons (pg_name (i := 7) scOt.nd rfl (Or.inl rfl)) (pgs_cons (pg_name (i := 8) scOt.nd rfl (Or.inl rfl)) pgs_nil))))
        (pss_cons (ps_if (pt_cut (PW.pt (pw_or (pt_cmpR op_eq (pv 4) pe_int (nomark _)) (pw_or1 (pt_cmpR op_eq (pe_op op_mod (pe_op op_fdiv (pv 3) pe_int) pe_int) pe_int (nomark _))))))
          (pss_one (ps_ret (pe_tup (pa_cons (pv 4) (pa_cons (pe_op op_catA (pe_op op_catA (pe_slice sl_tupA (pv 5) po_none (po_some (pv 6))) (pe_tup (pa_cons (pe_tup (pa_cons (pe_not (pv 7)) (pa_cons (pv 8) pa_nil))) pa_nil))) (pe_slice sl_tupA (pv 5) (po_some (pe_op op_add (pv 6) pe_int)) po_none)) pa_nil))))) pss_nil)
        (pss_cons (ps_cut (ps_set (i := 9) scOt.nd rfl (Or.inl rfl) (pe_op op_mod (pe_op op_fdiv (pv 3) pe_int) (pv 4))))
        (pss_cons (ps_set (i := 8) scOt.nd rfl (Or.inl rfl) (pe_op op_catA (pe_op op_catA (pe_slice sl_tupA (pv 8) po_none (po_some (pv 9))) (pe_tup (pa_cons (pe_op op_mod (pe_op op_add (pe_ix ix_tup (pv 8) (pv 9) (fun _ _ => rfl)) pe_int) (pe_callB call_len_seq (by rfl) T.len PySem.boot_len (pa_cons (pv 5) pa_nil))) pa_nil))) (pe_slice sl_tupA (pv 8) (po_some (pe_op op_add (pv 9) pe_int)) po_none)))
        (pss_one (ps_ret (pe_tup (pa_cons (pv 4) (pa_cons (pe_op op_catA (pe_op op_catA (pe_slice sl_tupA (pv 5) po_none (po_some (pv 6))) (pe_tup (pa_cons (pe_tup (pa_cons (pv 7) (pa_cons (pv 8) pa_nil))) pa_nil))) (pe_slice sl_tupA (pv 5) (po_some (pe_op op_add (pv 6) pe_int)) po_none)) pa_nil)))))))))) pss_nil)
      (pss_cons (ps_cut (ps_set (i := 10) scOt.nd rfl (Or.inr rfl) (pe_op op_add pe_int (pe_op op_mod (pe_op op_fdiv (pv 3) pe_int) pe_int))))
      (pss_cons (ps_set (i := 11) scOt.nd rfl (Or.inl rfl) (pe_lst pa_nil))
      (pss_cons (ps_for PassesOwn.never rfl (pi_range1 rfl T.range (pa_cons (pv 10) pa_nil)) (pg_name (i := 6) scOt.nd rfl (Or.inl rfl))
        (pss_cons (ps_cut (ps_set (i := 12) scOt.nd rfl (Or.inr rfl) (pe_op op_add (pe_op op_add (pv 1) pe_int) (pe_op op_mul (pv 6) (pe_op op_add (pv 4) pe_int)))))
        (pss_cons (ps_setlc (i := 8) scOt1 rfl rfl rfl (pi_range1 rfl T.range (pa_cons (pv 4) pa_nil)) (fun fp C s1 H1 => pg_name (i := 0) scOt1.nd rfl (Or.inl rfl)) (fun fp C s1 H1 => pts_nil)
          (fun fp C s1 H1 => pe_op op_mod (pe_call GC hr rfl gC FC.kp bC .nil pass0 (pa_cons (pv 2) (pa_cons (pe_op op_add (pe_op op_add (pv 1) pe_int) (pv 0)) pa_nil))) (pv 3)) scOt.nd rfl rfl rfl)
        (pss_one (ps_expr (pe_bm PySem.F.plainAttrs_list PySem.F.slot_list_append PySem.F.type_list_append mt_append (pv 11) (pa_cons (pe_tup (pa_cons (pe_cmpR op_eq (pe_op op_mod (pe_call GC hr rfl gC FC.kp bC .nil pass0 (pa_cons (pv 0) (pa_cons (pv 12) pa_nil))) pe_int) pe_int (nomark _))
          (pa_cons (pe_callTy call_tuple_of (by rfl) T.tuple PyProof.Rows.boot_tuple (pa_cons (pv 8) pa_nil)) pa_nil))) pa_nil)))))))
      (pss_one (ps_ret (pe_tup (pa_cons (pv 4) (pa_cons (pe_callTy call_tuple_of (by rfl) T.tuple PyProof.Rows.boot_tuple (pa_cons (pv 11) pa_nil)) pa_nil)))))))))), ?_⟩
    refine ⟨_, rfl, _, rfl, a, ns, st, rfl, hS, st0, by omega, fun cz H1 s1 => ?_⟩
    refine ⟨_, rfl, m, _, rfl, SqT.of (s1 _ _ m1), rfl, _, _, rfl, _, _, rfl, rfl, ?_⟩
    refine ⟨_, rfl, _, _, rfl, rfl, (by show (0 : Int) < 4; decide), rfl, _, rfl, ?_⟩
    refine ite2 (fun _ => ?_) (fun _ => ?_)
    · -- one room put otherwise
      refine ⟨fun σ' H' => ∃ kk : Nat, kk < rs.length ∧ σ' = [some (.ref a), some (.int st), some (.ref m), some (.int cz), some (.int many), some (.ref p), some (.int (kk : Int)), none, none, none, none, none, none] ∧ H' = H1, ?_, ?_⟩
      · refine ⟨_, rfl, _, _, rfl, rfl, ⟨by decide, by decide⟩, _, rfl, p, _, rfl, .inr (SqT.of (s1 _ _ m2)), _, _, rfl, rfl, (by rw [hql]; omega), ?_⟩
        rw [hql]
        have z0 : 0 ≤ cz / 4 % (rs.length : Int) := Int.emod_nonneg _ (by omega)
        have z1 : cz / 4 % (rs.length : Int) < rs.length := Int.emod_lt_of_pos _ (by omega)
        refine ⟨(cz / 4 % (rs.length : Int)).toNat, by omega, ?_, rfl⟩
        rw [show (((cz / 4 % (rs.length : Int)).toNat : Nat) : Int) = cz / 4 % (rs.length : Int) by omega]
        rfl
      rintro σ' H' ⟨kk, hk, rfl, hHH⟩
      rw [hHH]
      clear hHH H'
      obtain ⟨r, er⟩ : ∃ r, rs[kk]? = some r := ⟨rs[kk], by simp [hk]⟩
      obtain ⟨q, z, e1, e2, e3⟩ := m3.2 kk r er
      have hrow := G.row r (List.mem_of_getElem? er)
      refine ⟨_, rfl, _, rfl, p, _, _, _, rfl, rfl, SqT.of (s1 _ _ m2), atI_nat (by rw [List.getElem?_map, e1]; rfl), q, _, rfl, SqT.of (s1 _ _ e2), rfl, _, _, rfl, _, _, rfl, rfl, ?_⟩
      refine ⟨fun b H' => (b = false → many ≠ 0) ∧ H' = H1, ?_, ?_⟩
      · refine ⟨_, rfl, rfl, _, rfl, ?_⟩
        by_cases hm : many = 0
        · rw [decide_eq_true (show V.int many = V.int 0 by rw [hm])]
          exact iteT ⟨(fun z => by cases z), rfl⟩
        · rw [decide_eq_false (show ¬ V.int many = V.int 0 from fun z => hm (by injection z))]
          refine iteF ?_
          exact ⟨_, rfl, _, _, rfl, rfl, ⟨by decide, by decide⟩, _, _, rfl, rfl, (by show (0 : Int) < 2; decide), rfl, _, rfl, fun _ => hm, rfl⟩
      rintro b H' ⟨hb, hHH⟩
      rw [hHH]
      clear hHH H'
      have hkl : kk ≤ (qs.map V.ref).length := by omega
      have hkl2 : kk + 1 ≤ (qs.map V.ref).length := by omega
      cases b with
      | true =>
        refine iteT ?_
        refine ⟨_, rfl, _, rfl, _, rfl, (kk : Int), rfl, p, _, rfl, s1 _ _ m2, fun pc H2 s2 hpc => ?_⟩
        rw [cut_to _ _ hkl] at hpc
        refine ⟨_, rfl, _, rfl, _, rfl, (by show 2 ≤ sizeLine; decide), fun ti hti => ⟨(by show 1 ≤ sizeLine; decide), fun to hto => ?_⟩⟩
        have w3 : Same H2 (upd H2 ti (.tup [.bl (!r.1), .ref z])) := (Same.refl H2).upd_free hti
        have w4 : Same H2 (upd (upd H2 ti (.tup [.bl (!r.1), .ref z])) to (.tup [.ref ti])) := w3.upd_free (w3.free hto)
        have nto : ti ≠ to := fun e => by rw [e, upd_same] at hto; cases hto
        refine ⟨pc, to, _, _, rfl, rfl, w4 _ _ hpc, upd_same, Nat.le_of_lt (small1000 (by rw [List.length_take]; simp only [List.length_cons, List.length_nil]; omega)), fun pd H5 s5 hpd => ?_⟩
        have t5 : Same H H5 := (s1.trans s2).trans (w4.trans s5)
        refine ⟨_, rfl, _, rfl, _, _, rfl, rfl, (kk : Int) + 1, rfl, p, _, rfl, t5 _ _ m2, fun pe H6 s6 hpe => ?_⟩
        rw [show ((kk : Int) + 1) = ((kk + 1 : Nat) : Int) by omega, cut_from _ _ hkl2] at hpe
        refine ⟨pd, pe, _, _, rfl, rfl, s6 _ _ hpd, hpe, Nat.le_of_lt (small1000 (by rw [List.length_append, List.length_take, List.length_drop]; simp only [List.length_cons, List.length_nil]; omega)), fun pf H7 s7 hpf => ?_⟩
        have t7 : Same H H7 := (t5.trans s6).trans s7
        refine ⟨(by show 2 ≤ sizeLine; decide), fun m' hm => ?_⟩
        have w8 : Same H7 (upd H7 m' (.tup [.int many, .ref pf])) := (Same.refl H7).upd_free hm
        have t8 := t7.trans w8
        have hti8 : (upd H7 m' (.tup [.int many, .ref pf])) ti = some (.tup [.bl (!r.1), .ref z]) := w8 _ _ (s7 _ _ (s6 _ _ (s5 _ _ (by rw [upd_ne nto, upd_same]))))
        obtain ⟨GG, gl⟩ := swap_good (r' := (!r.1, r.2)) G hk hrow.1 hrow.2
        refine k m' _ _ t8 ⟨pf, qs.take kk ++ [ti] ++ qs.drop (kk + 1), upd_same, w8 _ _ (by rw [hpf]; simp [List.map_append, List.map_take, List.map_drop]), ?_⟩ GG (by omega)
        exact rows_app (rows_snoc (rows_take (m3.same t8) kk) hti8 (t8 _ _ e3)) (rows_drop (m3.same t8) (kk + 1))
      | false =>
        have hm0 := hb rfl
        refine iteF ?_
        refine ⟨fun σ' H' => ∃ jj : Nat, (jj : Int) < many ∧ σ' = [some (.ref a), some (.int st), some (.ref m), some (.int cz), some (.int many), some (.ref p), some (.int (kk : Int)), some (.bl r.1), some (.ref z), some (.int (jj : Int)), none, none, none] ∧ H' = H1, ?_, ?_⟩
        · refine ⟨_, rfl, _, _, rfl, rfl, ⟨by decide, by decide⟩, _, rfl, _, _, rfl, rfl, (by omega), ?_⟩
          have z0 : 0 ≤ cz / 96 % many := Int.emod_nonneg _ (by omega)
          have z1 : cz / 96 % many < many := Int.emod_lt_of_pos _ (by omega)
          refine ⟨(cz / 96 % many).toNat, by omega, ?_, rfl⟩
          rw [show (((cz / 96 % many).toNat : Nat) : Int) = cz / 96 % many by omega]
          rfl
        rintro σ' H' ⟨jj, hj, rfl, hHH⟩
        rw [hHH]
        clear hHH H'
        have hjl : jj < r.2.length := by have := hrow.1; omega
        have hjl1 : jj ≤ (r.2.map V.int).length := by rw [List.length_map]; omega
        have hjl2 : jj + 1 ≤ (r.2.map V.int).length := by rw [List.length_map]; omega
        obtain ⟨t, et⟩ : ∃ t, r.2[jj]? = some t := ⟨r.2[jj], by simp [hjl]⟩
        refine ⟨_, rfl, _, rfl, (jj : Int), rfl, z, _, rfl, s1 _ _ e3, fun pc H2 s2 hpc => ?_⟩
        rw [cut_to _ _ hjl1] at hpc
        have hrl := hrow.1
        refine ⟨_, rfl, _, rfl, z, _, _, _, rfl, rfl, SqT.of (s2 _ _ (s1 _ _ e3)), atI_nat (by rw [List.getElem?_map, et]; rfl), _, _, rfl, rfl, _, rfl, p, _, rfl, .inr (SqT.of (s2 _ _ (s1 _ _ m2))), _, _, rfl, rfl, (by rw [hql]; omega), (by show 1 ≤ sizeLine; decide), fun to hto => ?_⟩
        rw [hql]
        have v0 : 0 ≤ (t + 1) % (rs.length : Int) := Int.emod_nonneg _ (by omega)
        have v1 : (t + 1) % (rs.length : Int) < rs.length := Int.emod_lt_of_pos _ (by omega)
        have w4 : Same H2 (upd H2 to (.tup [.int ((t + 1) % (rs.length : Int))])) := (Same.refl H2).upd_free hto
        refine ⟨pc, to, _, _, rfl, rfl, w4 _ _ hpc, upd_same, Nat.le_of_lt (small1000 (by rw [List.length_take, List.length_map]; simp only [List.length_cons, List.length_nil]; omega)), fun pd H5 s5 hpd => ?_⟩
        have t15 : Same H1 H5 := s2.trans (w4.trans s5)
        refine ⟨_, rfl, _, rfl, _, _, rfl, rfl, (jj : Int) + 1, rfl, z, _, rfl, t15 _ _ (s1 _ _ e3), fun pe H6 s6 hpe => ?_⟩
        rw [show ((jj : Int) + 1) = ((jj + 1 : Nat) : Int) by omega, cut_from _ _ hjl2] at hpe
        refine ⟨pd, pe, _, _, rfl, rfl, s6 _ _ hpd, hpe, Nat.le_of_lt (small1000 (by rw [List.length_append, List.length_take, List.length_drop, List.length_map]; simp only [List.length_cons, List.length_nil]; omega)), fun zn H7 s7 hzn => ?_⟩
        have t17 : Same H1 H7 := (t15.trans s6).trans s7
        have hzn' : H7 zn = some (.tup ((r.2.take jj ++ [(t + 1) % (rs.length : Int)] ++ r.2.drop (jj + 1)).map V.int)) := by rw [hzn]; simp [List.map_append, List.map_take, List.map_drop]
        have nlen : ((r.2.take jj ++ [(t + 1) % (rs.length : Int)] ++ r.2.drop (jj + 1)).length : Int) = many := by
          rw [List.length_append, List.length_append, List.length_take, List.length_drop, List.length_singleton]
          omega
        have nrng : ∀ n ∈ r.2.take jj ++ [(t + 1) % (rs.length : Int)] ++ r.2.drop (jj + 1), 0 ≤ n ∧ n < (rs.length : Int) := fun n hn => by
          rcases List.mem_append.mp hn with hn | hn
          · rcases List.mem_append.mp hn with hn | hn
            · exact hrow.2 n (List.mem_of_mem_take hn)
            · rw [List.mem_singleton] at hn
              subst hn
              exact ⟨v0, v1⟩
          · exact hrow.2 n (List.mem_of_mem_drop hn)
        generalize r.2.take jj ++ [(t + 1) % (rs.length : Int)] ++ r.2.drop (jj + 1) = nn at hzn' nlen nrng
        have t7 : Same H H7 := s1.trans t17
        refine ⟨_, rfl, _, rfl, _, rfl, (kk : Int), rfl, p, _, rfl, t7 _ _ m2, fun pg H8 s8 hpg => ?_⟩
        rw [cut_to _ _ hkl] at hpg
        refine ⟨_, rfl, _, rfl, (by show 2 ≤ sizeLine; decide), fun ti hti => ⟨(by show 1 ≤ sizeLine; decide), fun tu htu => ?_⟩⟩
        have w9 : Same H8 (upd H8 ti (.tup [.bl r.1, .ref zn])) := (Same.refl H8).upd_free hti
        have w10 : Same H8 (upd (upd H8 ti (.tup [.bl r.1, .ref zn])) tu (.tup [.ref ti])) := w9.upd_free (w9.free htu)
        have ntu : ti ≠ tu := fun e => by rw [e, upd_same] at htu; cases htu
        refine ⟨pg, tu, _, _, rfl, rfl, w10 _ _ hpg, upd_same, Nat.le_of_lt (small1000 (by rw [List.length_take]; simp only [List.length_cons, List.length_nil]; omega)), fun ph H11 s11 hph => ?_⟩
        have t11 : Same H7 H11 := s8.trans (w10.trans s11)
        refine ⟨_, rfl, _, rfl, _, _, rfl, rfl, (kk : Int) + 1, rfl, p, _, rfl, t11 _ _ (t7 _ _ m2), fun pi H12 s12 hpi => ?_⟩
        rw [show ((kk : Int) + 1) = ((kk + 1 : Nat) : Int) by omega, cut_from _ _ hkl2] at hpi
        refine ⟨ph, pi, _, _, rfl, rfl, s12 _ _ hph, hpi, Nat.le_of_lt (small1000 (by rw [List.length_append, List.length_take, List.length_drop]; simp only [List.length_cons, List.length_nil]; omega)), fun pf H13 s13 hpf => ?_⟩
        have t13 : Same H7 H13 := (t11.trans s12).trans s13
        refine ⟨(by show 2 ≤ sizeLine; decide), fun m' hm => ?_⟩
        have w14 : Same H13 (upd H13 m' (.tup [.int many, .ref pf])) := (Same.refl H13).upd_free hm
        have t14 : Same H _ := t7.trans (t13.trans w14)
        have hti14 : (upd H13 m' (.tup [.int many, .ref pf])) ti = some (.tup [.bl r.1, .ref zn]) := w14 _ _ (s13 _ _ (s12 _ _ (s11 _ _ (by rw [upd_ne ntu, upd_same]))))
        have hzn14 := w14 _ _ (t13 _ _ hzn')
        obtain ⟨GG, gl⟩ := swap_good (r' := (r.1, nn)) G hk nlen nrng
        refine k m' _ _ t14 ⟨pf, qs.take kk ++ [ti] ++ qs.drop (kk + 1), upd_same, w14 _ _ (by rw [hpf]; simp [List.map_append, List.map_take, List.map_drop]), ?_⟩ GG (by omega)
        exact rows_app (rows_snoc (rows_take (m3.same t14) kk) hti14 hzn14) (rows_drop (m3.same t14) (kk + 1))
    · -- a machine of its own
      refine ⟨fun σ' H' => ∃ size : Int, 1 ≤ size ∧ size ≤ cOt ∧ σ' = [some (.ref a), some (.int st), some (.ref m), some (.int cz), some (.int many), some (.ref p), none, none, none, none, some (.int size), none, none] ∧ H' = H1, ?_, ?_⟩
      · refine ⟨_, rfl, _, _, rfl, rfl, ⟨by decide, by decide⟩, _, _, rfl, rfl, (by show (0 : Int) < cOt; decide), _, _, rfl, rfl, ?_⟩
        have zc : cOt ≤ 6 ∧ 1 ≤ cOt := by decide
        have y0 : 0 ≤ cz / 4 % cOt := Int.emod_nonneg _ (by omega)
        have y1 : cz / 4 % cOt < cOt := Int.emod_lt_of_pos _ (by omega)
        exact ⟨1 + cz / 4 % cOt, by omega, by omega, rfl, rfl⟩
      rintro σ' H' ⟨size, z0, z1, rfl, hHH⟩
      rw [hHH]
      clear hHH H'
      refine ⟨Nat.zero_le _, fun l hl => ?_⟩
      have hlH : H l = none := s1.free hl
      have s2 : Same H (upd H1 l (.lst [])) := s1.upd_free hlH
      refine ⟨_, rfl, _, rfl, by omega, by omega, ?_⟩
      refine for_range (n := size.toNat) (fun i σ H2 => ∃ (ps : List Addr) (rs' : Rms) (v6 v8 v12 : Option V), σ = [some (.ref a), some (.int st), some (.ref m), some (.int cz), some (.int many), some (.ref p), v6, none, v8, none, some (.int size), some (.ref l), v12] ∧ Same H H2 ∧ H2 l = some (.lst (ps.map V.ref)) ∧ RowsAt H2 ps rs' ∧ rs'.length = i ∧ ∀ r ∈ rs', (r.2.length : Int) = many ∧ ∀ n ∈ r.2, 0 ≤ n ∧ n < size)
        ⟨[], [], none, none, none, rfl, s2, upd_same, ⟨rfl, fun i r e => by simp at e⟩, rfl, fun r hr => by cases hr⟩ ?_ ?_
      · rintro i σ H2 hi ⟨ps, rs', v6, v8, v12, rfl, t2, hL, hR, hlen, hrow⟩
        have i1 : (i : Int) < size := by omega
        have p0 : 0 ≤ (i : Int) * (many + 1) := Int.mul_nonneg (by omega) (by omega)
        have p1 : (i : Int) * (many + 1) ≤ 6 * 9 := Int.mul_le_mul (by omega) (by omega) (by omega) (by omega)
        have e0 : 0 + (i : Int) = (i : Int) := Int.zero_add _
        refine ⟨fun σ' H' => ∃ at' : Int, 0 ≤ at' ∧ at' ≤ 700 ∧ σ' = [some (.ref a), some (.int st), some (.ref m), some (.int cz), some (.int many), some (.ref p), some (.int (0 + (i : Int))), none, v8, none, some (.int size), some (.ref l), some (.int at')] ∧ H' = H2, ?_, ?_⟩
        · refine ⟨_, rfl, _, _, rfl, rfl, _, rfl, _, rfl, _, _, rfl, rfl, _, _, rfl, rfl, .inr ⟨by omega, by omega⟩, _, _, rfl, rfl, ?_⟩
          refine ⟨st + 1 + (0 + (i : Int)) * (many + 1), ?_, ?_, rfl, rfl⟩
          · rw [e0]; omega
          · rw [e0]; omega
        rintro σ' H' ⟨at', q0, q1, rfl, hHH⟩
        rw [hHH]
        clear hHH H'
        refine ⟨_, rfl, _, rfl, by omega, by omega, fun D hD => ?_⟩
        refine lc_range (n := many.toNat) (fun j ys H3 => Same H2 H3 ∧ H3 D = some (.lst ys) ∧ ys.length = j ∧ ∃ xs : List Int, ys = xs.map V.int ∧ ∀ x ∈ xs, 0 ≤ x ∧ x < size) (Nat.le_of_lt (small1000 (by omega)))
          ⟨(Same.refl H2).upd_free hD, upd_same, rfl, [], rfl, fun x hx => by cases hx⟩ (fun j ys H3 h => Nat.le_of_eq h.2.2.1) ?_ ?_
        · rintro j ys H3 N M hj ⟨u1, u2, u3, xs, rfl, u5⟩ hN hM
          refine ⟨_, rfl, _, rfl, _, _, rfl, rfl, _, rfl, _, _, rfl, rfl, a, ns, _, rfl, (t2.trans u1).seq hS, by omega, by omega, fun z H4 u6 => ?_⟩
          refine ⟨_, rfl, _, _, rfl, rfl, by omega, ?_⟩
          refine hN _ H4 (u6 _ _ u2) ⟨(u1.trans u6).upd_free hD, upd_same, by rw [List.length_append, List.length_singleton, u3], xs ++ [z % size], by rw [List.map_append]; rfl, fun x hx => ?_⟩
          rcases List.mem_append.mp hx with hx | hx
          · exact u5 x hx
          · rw [List.mem_singleton] at hx
            subst hx
            exact ⟨Int.emod_nonneg _ (by omega), Int.emod_lt_of_pos _ (by omega)⟩
        · rintro ys H3 ⟨u1, u2, u3, xs, rfl, u5⟩
          have xl : (xs.length : Int) = many := by rw [List.length_map] at u3; omega
          refine ⟨_, rfl, .inl ⟨rfl, _, SqL.of (u1 _ _ hL)⟩, _, rfl, _, rfl, a, ns, _, rfl, (t2.trans u1).seq hS, by omega, by omega, fun z H4 u6 => ?_⟩
          refine ⟨_, _, rfl, rfl, (by show (0 : Int) < 2; decide), rfl, _, rfl, D, _, rfl, .inl ⟨SqL.of (u6 _ _ u2), fun zt hzt => ?_⟩⟩
          refine ⟨(by show 2 ≤ sizeLine; decide), fun q hq => ?_⟩
          have nzq : zt ≠ q := fun e => by rw [e, upd_same] at hq; cases hq
          have hq4 : H4 q = none := by rw [upd_ne (Ne.symm nzq)] at hq; exact hq
          generalize hbb : decide (V.int (z % 2) = V.int 1) = bb
          have v3 : Same H2 (upd (upd H4 zt (.tup (xs.map V.int))) q (.tup [.bl bb, .ref zt])) := (u1.trans u6).trans (((Same.refl H4).upd_free hzt).upd_free hq4)
          have hpl := hR.1
          have tS : TSame (upd (upd H4 zt (.tup (xs.map V.int))) q (.tup [.bl bb, .ref zt])) (upd (upd (upd H4 zt (.tup (xs.map V.int))) q (.tup [.bl bb, .ref zt])) l (.lst (ps.map V.ref ++ [.ref q]))) := TSame.upd_lst (fun _ _ e => e) (v3 _ _ hL)
          refine ⟨l, _, _, rfl, rfl, v3 _ _ hL, small1000 (by rw [List.length_map]; omega), ?_⟩
          refine ⟨ps ++ [q], rs' ++ [(bb, xs)], _, _, _, rfl, (t2.trans v3).upd_free hlH, by rw [upd_same, List.map_append]; rfl, rows_snoc (rows_tsame hR (v3.tups.trans tS)) (z := zt) (tS _ _ upd_same) (tS _ _ (by rw [upd_ne nzq, upd_same])), by rw [List.length_append, hlen]; rfl, fun r hr' => ?_⟩
          rcases List.mem_append.mp hr' with h | h
          · exact hrow r h
          · rw [List.mem_singleton] at h
            subst h
            exact ⟨xl, u5⟩
      · rintro σ H2 ⟨ps, rs', v6, v8, v12, rfl, t2, hL, hR, hlen, hrow⟩
        refine ⟨_, rfl, _, rfl, l, _, rfl, .inl ⟨SqL.of hL, fun zt hzt => ?_⟩⟩
        refine ⟨(by show 2 ≤ sizeLine; decide), fun m' hm => ?_⟩
        have nzm : zt ≠ m' := fun e => by rw [e, upd_same] at hm; cases hm
        have hm3 : H2 m' = none := by rw [upd_ne (Ne.symm nzm)] at hm; exact hm
        have sw : Same H2 (upd (upd H2 zt (.tup (ps.map V.ref))) m' (.tup [.int many, .ref zt])) := ((Same.refl H2).upd_free hzt).upd_free hm3
        refine k m' rs' _ (t2.trans sw) ⟨zt, ps, upd_same, by rw [upd_ne nzm, upd_same], hR.same sw⟩ ⟨gmn, by omega, by omega, fun r hr' => ?_⟩ (by omega)
        have q := hrow r hr'
        exact ⟨q.1, fun n hn => ⟨(q.2 n hn).1, by have := (q.2 n hn).2; omega⟩⟩
end
end K22
namespace K25
open PySem L2 K20 K21 K60 K23 K24

def tw (x : Str) (b c : Bool) : Bool := if x = "both" then b && c else if x = "either" then b || c else if x = "less" then b && !c else b != c
def spJt : Sp := fun vs H Q _ => ∃ (x : Str) (b c : Bool), vs = [.str x, .bl b, .bl c] ∧ Q (.bl (tw x b c)) H
structure Jnd (many : Int) (f : Bool → Bool → Bool) (r1 r2 M : Rms) : Prop where
  can : Can many M
  len : M.length ≤ r1.length * r2.length
  run : ∀ run, Lts many run → gd M (walkM M 0 run) = f (gd r1 (walkM r1 0 run)) (gd r2 (walkM r2 0 run))
def spJo : Sp := fun vs H Q _ => ∃ (x : Str) (m1 m2 : Addr) (many : Int) (r1 r2 : Rms), vs = [.str x, .ref m1, .ref m2] ∧ MAt H m1 many r1 ∧ MAt H m2 many r2 ∧ Good many r1 ∧ Good many r2 ∧ r1.length * r2.length ≤ 100 ∧
  ∀ (m : Addr) (M : Rms) (H' : Hp), Same H H' → MAt H' m many M → Jnd many (tw x) r1 r2 M → Q (.ref m) H'
theorem str_ne {x y : Str} (h : ¬ decide (V.str x = V.str y) = true) : x ≠ y := fun e => h (decide_eq_true (by rw [e]))
theorem str_eq {x y : Str} (h : decide (V.str x = V.str y) = true) : x = y := by
  have := of_decide_eq_true h
  injection this
theorem bl_ne (b c : Bool) : (!decide (V.bl b = V.bl c)) = (b != c) := by cases b <;> cases c <;> decide
theorem zipped_pr {H : Hp} : ∀ (ts : List Addr) (as bs : List Int), ts.length = as.length → as.length = bs.length → Zipped H ts (as.map V.int) (bs.map V.int) → PrAt H ts (as.zip bs)
  | [], [], [], _, _, _ => .nil
  | [], _ :: _, _, h, _, _ => by simp at h
  | _ :: _, [], _, h, _, _ => by simp at h
  | [], [], _ :: _, _, h, _ => by simp at h
  | _ :: _, _ :: _, [], _, h, _ => by simp at h
  | t :: ts, a :: as, b :: bs, h1, h2, h => by
    obtain ⟨x, y, e1, e2, e3⟩ := h 0 t rfl
    cases e1
    cases e2
    exact .cons e3 (zipped_pr ts as bs (by simpa using h1) (by simpa using h2) fun i t' e => by
      obtain ⟨x, y, g1, g2, g3⟩ := h (i + 1) t' (by simpa using e)
      exact ⟨x, y, by simpa using g1, by simpa using g2, g3⟩)
section
variable {P : Program} {w : World} {K : PySem.W.Frag} {mg : Str → Option Value} {base : Heap}
theorem scJt : FnScope ["word", "one", "other"] ["word", "one", "other"] (defScope sJt) := ⟨rfl, rfl, rfl, by decide +kernel, rfl, by decide +kernel, by decide +kernel⟩
theorem ok_jt {f : Addr} {fd : FuncData} (F : Fun K "joined_truth" "joined_truth" sJt f fd) (T : Txt mg) : FnOk P w K mg base CX0 1 f fd ["word", "one", "other"] spJt := by
  refine F.ok scJt (fun vs H Q E h => ?_) (fun cdv A outer s H vs Q E hr h => ?_)
  · obtain ⟨x, b, c, rfl, _⟩ := h
    rfl
  · obtain ⟨x, b, c, rfl, k⟩ := h
    refine ⟨_, pss_cons (ps_if (pt_cmpR op_eq (pv 0) pe_str (nomark _)) (pss_one (ps_ret (pe_and (pv 1) (pe_one (pv 2))))) pss_nil)
      (pss_cons (ps_if (pt_cmpR op_eq (pv 0) pe_str (nomark _)) (pss_one (ps_ret (pe_or (pv 1) (pe_one (pv 2))))) pss_nil)
      (pss_cons (ps_if (pt_cmpR op_eq (pv 0) pe_str (nomark _)) (pss_one (ps_ret (pe_and (pv 1) (pe_one (pe_not (pv 2)))))) pss_nil)
      (pss_one (ps_ret (pe_cmpR op_ne (pv 1) (pv 2) (nomark _)))))), ?_⟩
    unfold tw at k
    refine ⟨_, rfl, rfl, _, rfl, ?_⟩
    refine ite2 (fun h => ?_) (fun h => ?_)
    · rw [if_pos (str_eq h)] at k
      refine ⟨_, rfl, b, rfl, ?_⟩
      cases b with
      | true => exact iteT ⟨_, rfl, k⟩
      | false => exact iteF k
    rw [if_neg (str_ne h)] at k
    refine ⟨_, rfl, rfl, _, rfl, ?_⟩
    refine ite2 (fun h => ?_) (fun h => ?_)
    · rw [if_pos (str_eq h)] at k
      refine ⟨_, rfl, b, rfl, ?_⟩
      cases b with
      | true => exact iteT k
      | false => exact iteF ⟨_, rfl, k⟩
    rw [if_neg (str_ne h)] at k
    refine ⟨_, rfl, rfl, _, rfl, ?_⟩
    refine ite2 (fun h => ?_) (fun h => ?_)
    · rw [if_pos (str_eq h)] at k
      refine ⟨_, rfl, b, rfl, ?_⟩
      cases b with
      | true => exact iteT ⟨_, rfl, c, rfl, k⟩
      | false => exact iteF k
    rw [if_neg (str_ne h)] at k
    refine ⟨_, rfl, _, rfl, rfl, ?_⟩
    rw [bl_ne]
    exact k
abbrev nJo : List Str := ["word", "one", "other", "pairs", "numbers", "rooms", "pair", "here", "there", "behind", "met"]
theorem scJo : FnScope nJo ["word", "one", "other"] (defScope sJo) := ⟨rfl, rfl, rfl, by decide +kernel, rfl, by decide +kernel, by decide +kernel⟩
def scopeJo : Scope := { kind := .function, names := [(".0", .local), ("met", .local), ("numbers", .free)], isGenerator := false, isCoroutine := false, more := [] }
theorem scJo1 : BlkScope (defScope sJo) nJo ["met"] ["numbers"] [4] scopeJo := ⟨rfl, by decide +kernel, by decide +kernel, by decide +kernel, rfl, by decide +kernel, by decide +kernel⟩
theorem ok_jo {f fT fF fK fM fL : Addr} {fd fdT fdF fdK fdM fdL : FuncData} (F : Fun K "joined" "joined" sJo f fd) (T : Txt mg)
    (FT : Fun K "joined_truth" "joined_truth" sJt fT fdT) (bT : Binds K fdT ["word", "one", "other"] []) (gT : mg "joined_truth" = some (.ref fT))
    (FF : Fun K "finer_kinds" "finer_kinds" sFk fF fdF) (bF : Binds K fdF ["rooms", "kinds"] []) (gF : mg "finer_kinds" = some (.ref fF))
    (FK : Fun K "kinds_by_length" "kinds_by_length" sKl fK fdK) (bK : Binds K fdK ["rooms"] []) (gK : mg "kinds_by_length" = some (.ref fK))
    (FM : Fun K "merged_room" "merged_room" sMr fM fdM) (bM : Binds K fdM ["room", "kinds", "numbers"] []) (gM : mg "merged_room" = some (.ref fM))
    (FL : Fun K "least" "least" sLs fL fdL) (bL : Binds K fdL ["machine"] []) (gL : mg "least" = some (.ref fL)) :
    FnOk P w K mg base CX0 4 f fd ["word", "one", "other"] spJo := by
  have GT : FnOk P w K mg base CX0 1 fT fdT ["word", "one", "other"] spJt := ok_jt FT T
  have GL : FnOk P w K mg base CX0 3 fL fdL ["machine"] spLs := ok_ls FL T FF bF gF FK bK gK FM bM gM
  refine F.ok scJo (fun vs H Q E h => ?_) (fun cdv A outer s H vs Q E hr h => ?_)
  · obtain ⟨x, m1, m2, many, r1, r2, rfl, _⟩ := h
    rfl
  · obtain ⟨x, m1, m2, many, r1, r2, rfl, M1, M2, G1, G2, hmul, k⟩ := h
    obtain ⟨pr1, qs1, a1, a2, a3⟩ := id M1
    obtain ⟨pr2, qs2, b1, b2, b3⟩ := id M2
    have hu := hu_of hr
    have hr1 : Room 1 _ := hr.mono (by decide)
    have gmn := G1.mn
    refine ⟨_, pss_cons (ps_set (i := 3) scJo.nd rfl (Or.inl rfl) (pe_lst (pa_cons (pe_tup (pa_cons pe_int (pa_cons pe_int pa_nil))) pa_nil)))
      (pss_cons (ps_set (i := 4) scJo.nd rfl (Or.inr rfl) (pe_dispT (Nat.lt_of_succ_lt hu) (pe_tup (pa_cons pe_int (pa_cons pe_int pa_nil))) pe_int))
      (pss_cons (ps_set (i := 5) scJo.nd rfl (Or.inl rfl) (pe_lst pa_nil))
      (pss_cons (ps_while PassesOwn.never (pt_cmpR op_lt (pe_callB call_len_seq (by rfl) T.len PySem.boot_len (pa_cons (pv 5) pa_nil)) (pe_callB call_len_seq (by rfl) T.len PySem.boot_len (pa_cons (pv 3) pa_nil)) (nomark _))
        (pss_cons (ps_set (i := 6) scJo.nd rfl (Or.inl rfl) (pe_ix ix_list (pv 3) (pe_callB call_len_seq (by rfl) T.len PySem.boot_len (pa_cons (pv 5) pa_nil)) (fun _ _ => rfl)))
        (pss_cons (ps_set (i := 7) scJo.nd rfl (Or.inl rfl) (pe_ix ix_tup (pe_ix ix_tup (pv 1) pe_int (fun _ _ => rfl)) (pe_ix ix_tup (pv 6) pe_int (fun _ _ => rfl)) (fun _ _ => rfl)))
        (pss_cons (ps_set (i := 8) scJo.nd rfl (Or.inl rfl) (pe_ix ix_tup (pe_ix ix_tup (pv 2) pe_int (fun _ _ => rfl)) (pe_ix ix_tup (pv 6) pe_int (fun _ _ => rfl)) (fun _ _ => rfl)))
        (pss_cons (ps_set (i := 9) scJo.nd rfl (Or.inl rfl) (pe_lzip true true rfl rfl T.zip rfl T.list (pa_cons (pe_ix ix_tup (pv 7) pe_int (fun _ _ => rfl)) (pa_cons (pe_ix ix_tup (pv 8) pe_int (fun _ _ => rfl)) pa_nil))))
        (pss_cons (ps_for PassesOwn.never rfl (pi_list (pv 9)) (pg_name (i := 10) scJo.nd rfl (Or.inl rfl))
          (pss_one (ps_if (pt_cmp (pc_dnotin hu (pv 10) (pv 4)))
            (pss_cons (ps_dput hu (pv 4) (pv 10) (pe_callB call_len_seq (by rfl) T.len PySem.boot_len (pa_cons (pv 3) pa_nil)) rfl)
            (pss_one (ps_expr (pe_bm PySem.F.plainAttrs_list PySem.F.slot_list_append PySem.F.type_list_append mt_append (pv 3) (pa_cons (pv 10) pa_nil)))))
            pss_nil)))
        (pss_one (ps_expr (pe_bm PySem.F.plainAttrs_list PySem.F.slot_list_append PySem.F.type_list_append mt_append (pv 5) (pa_cons (pe_tup (pa_cons
          (pe_call GT hr1 rfl gT FT.kp bT .nil pass0 (pa_cons (pv 0) (pa_cons (pe_ix ix_tup (pv 7) pe_int (fun _ _ => rfl)) (pa_cons (pe_ix ix_tup (pv 8) pe_int (fun _ _ => rfl)) pa_nil))))
          (pa_cons (pe_callTy call_tuple_of (by rfl) T.tuple PyProof.Rows.boot_tuple (pa_cons (pe_lc scJo1 rfl rfl rfl (pi_list (pv 9)) (fun fp C s1 H1 => pg_name (i := 0) scJo1.nd rfl (Or.inl rfl)) (fun fp C s1 H1 => pts_nil) (fun fp C s1 H1 => pe_dget hu (pv 1) (pv 0) (fun _ _ => rfl))) pa_nil)) pa_nil))) pa_nil))))))))))
      (pss_one (ps_ret (pe_call GL hr rfl gL FL.kp bL .nil pass0 (pa_cons (pe_tup (pa_cons (pe_ix ix_tup (pv 1) pe_int (fun _ _ => rfl)) (pa_cons (pe_callTy call_tuple_of (by rfl) T.tuple PyProof.Rows.boot_tuple (pa_cons (pv 5) pa_nil)) pa_nil))) pa_nil))))))), ?_⟩
    -- pairs, numbers, rooms
    refine ⟨(by show 2 ≤ sizeLine; decide), fun t0 ht0 => ⟨(by show 1 ≤ sizeLine; decide), fun lp hlp => ?_⟩⟩
    have w1 : Same H (upd H t0 (.tup [.int 0, .int 0])) := (Same.refl H).upd_free ht0
    have n0 : t0 ≠ lp := fun e => by rw [e, upd_same] at hlp; cases hlp
    have hlpH : H lp = none := w1.free hlp
    have w2 : Same H (upd (upd H t0 (.tup [.int 0, .int 0])) lp (.lst [.ref t0])) := w1.upd_free hlpH
    have hT0 : (upd (upd H t0 (.tup [.int 0, .int 0])) lp (.lst [.ref t0])) t0 = some (.tup [.int 0, .int 0]) := by rw [upd_ne n0, upd_same]
    have hP0 : (upd (upd H t0 (.tup [.int 0, .int 0])) lp (.lst [.ref t0])) lp = some (.lst [.ref t0]) := upd_same
    generalize upd (upd H t0 (.tup [.int 0, .int 0])) lp (.lst [.ref t0]) = Ha at *
    intro dm hdm
    have hdmH : H dm = none := w2.free hdm
    refine ⟨(by show 2 ≤ sizeLine; decide), fun t1 ht1 => ?_⟩
    have n1 : dm ≠ t1 := fun e => by rw [e, upd_same] at ht1; cases ht1
    have ht1H : Ha t1 = none := by rw [upd_ne (Ne.symm n1)] at ht1; exact ht1
    refine ⟨by rw [upd_ne n1]; exact upd_same, t1, .int 0, keyP (0, 0), rfl, upd_same, ?_⟩
    rw [upd_swap]
    have w3 : Same Ha (upd (upd Ha t1 (.tup [.int 0, .int 0])) dm (.dT [(keyP (0, 0), .int 0)])) := ((Same.refl Ha).upd_free ht1H).upd_free hdm
    have hD0 : (upd (upd Ha t1 (.tup [.int 0, .int 0])) dm (.dT [(keyP (0, 0), .int 0)])) dm = some (.dT (numK 0 [(0, 0)])) := upd_same
    generalize upd (upd Ha t1 (.tup [.int 0, .int 0])) dm (.dT [(keyP (0, 0), .int 0)]) = Hb at *
    refine ⟨Nat.zero_le _, fun lr hlr => ?_⟩
    have w4 : Same Hb (upd Hb lr (.lst [])) := (Same.refl Hb).upd_free hlr
    have hlrH : H lr = none := w2.free (w3.free hlr)
    have npr : lp ≠ lr := ne_of_none (w3 _ _ hP0) hlr
    have s0 : Same H (upd Hb lr (.lst [])) := (w2.trans w3).trans w4
    -- pair by pair
    refine ⟨fun mm σ H2 => ∃ (ps : List Pr) (ws qs : List Addr) (d : Nat) (v6 v7 v8 v9 v10 : Option V), σ = [some (.str x), some (.ref m1), some (.ref m2), some (.ref lp), some (.ref dm), some (.ref lr), v6, v7, v8, v9, v10] ∧ mm = r1.length * r2.length + 1 - d ∧ Same H H2 ∧ H2 lp = some (.lst (ws.map V.ref)) ∧ PrAt H2 ws ps ∧ H2 dm = some (.dT (numK 0 ps)) ∧ H2 lr = some (.lst (qs.map V.ref)) ∧ RowsAt H2 qs ((ps.take d).map (rowP r1 r2 (tw x) ps)) ∧ JB r1 r2 many ps d,
      ⟨_, [(0, 0)], [t0], [], 0, none, none, none, none, none, rfl, rfl, s0, w4 _ _ (w3 _ _ hP0), .cons (w4 _ _ (w3 _ _ hT0)) .nil, w4 _ _ hD0, upd_same, ⟨rfl, fun i r e => by simp at e⟩, JB.init G1 G2⟩, ?_⟩
    rintro mm σ H2 ⟨ps, ws, qs, d, v6, v7, v8, v9, v10, rfl, rfl, t2, hL, hW, hD, hQ, hR, B⟩
    have hml := pairs_le B.nd B.ok
    have hwl := Paired.length hW
    have hdl := B.dl
    have hql : qs.length = d := by
      rw [hR.1, List.length_map, List.length_take]
      omega
    refine ⟨_, rfl, lr, _, rfl, .inl (SqL.of hQ), _, rfl, lp, _, rfl, .inl (SqL.of hL), _, _, rfl, rfl, _, rfl, ?_⟩
    rw [List.length_map, List.length_map]
    refine ite2 (fun hlt => ?_) (fun hge => ?_)
    · have hlt' : d < ps.length := by
        have := of_decide_eq_true hlt
        omega
      obtain ⟨p, hp⟩ : ∃ p, ps[d]? = some p := ⟨ps[d], by simp [hlt']⟩
      have pr := B.ok p (List.mem_of_getElem? hp)
      obtain ⟨wq, ewq, hwq⟩ := prAt_get hW hp
      refine ⟨fun σ' H' => ∃ m', m' < r1.length * r2.length + 1 - d ∧ ∃ (ps : List Pr) (ws qs : List Addr) (d : Nat) (v6 v7 v8 v9 v10 : Option V), σ' = [some (.str x), some (.ref m1), some (.ref m2), some (.ref lp), some (.ref dm), some (.ref lr), v6, v7, v8, v9, v10] ∧ m' = r1.length * r2.length + 1 - d ∧ Same H H' ∧ H' lp = some (.lst (ws.map V.ref)) ∧ PrAt H' ws ps ∧ H' dm = some (.dT (numK 0 ps)) ∧ H' lr = some (.lst (qs.map V.ref)) ∧ RowsAt H' qs ((ps.take d).map (rowP r1 r2 (tw x) ps)) ∧ JB r1 r2 many ps d, fun σ' H' z => z, ?_⟩
      obtain ⟨ra, era⟩ := some_at r1 p.1 pr.1.1 pr.1.2
      obtain ⟨rb, erb⟩ := some_at r2 p.2 pr.2.1 pr.2.2
      obtain ⟨qa, za, c1, c2, c3⟩ := a3.2 _ _ era
      obtain ⟨qb, zb, d1, d2, d3⟩ := b3.2 _ _ erb
      have rowa := G1.row ra (List.mem_of_getElem? era)
      have rowb := G2.row rb (List.mem_of_getElem? erb)
      have enxa : nx r1 p.1 = ra.2 := by unfold nx; rw [getD_of era]
      have enxb : nx r2 p.2 = rb.2 := by unfold nx; rw [getD_of erb]
      have ega : gd r1 p.1 = ra.1 := by unfold gd; rw [getD_of era]
      have egb : gd r2 p.2 = rb.1 := by unfold gd; rw [getD_of erb]
      refine ⟨_, rfl, _, rfl, lr, _, rfl, .inl (SqL.of hQ), lp, _, _, .ref wq, rfl, rfl, SqL.of hL, atI_nat (by rw [List.length_map, hql, List.getElem?_map, ewq]; rfl), ?_⟩
      refine ⟨_, rfl, m1, _, _, _, rfl, rfl, SqT.of (t2 _ _ a1), rfl, _, rfl, wq, _, _, _, rfl, rfl, SqT.of hwq, rfl, pr1, _, _, .ref qa, rfl, rfl, SqT.of (t2 _ _ a2), atI_int pr.1.1 (by rw [List.getElem?_map, c1]; rfl), ?_⟩
      refine ⟨_, rfl, m2, _, _, _, rfl, rfl, SqT.of (t2 _ _ b1), rfl, _, rfl, wq, _, _, _, rfl, rfl, SqT.of hwq, rfl, pr2, _, _, .ref qb, rfl, rfl, SqT.of (t2 _ _ b2), atI_int pr.2.1 (by rw [List.getElem?_map, d1]; rfl), ?_⟩
      refine ⟨_, rfl, qa, _, _, _, rfl, rfl, SqT.of (t2 _ _ c2), rfl, _, rfl, qb, _, _, _, rfl, rfl, SqT.of (t2 _ _ d2), rfl, za, zb, ra.2.map V.int, rb.2.map V.int, rfl, SqT.of (t2 _ _ c3), SqT.of (t2 _ _ d3), by rw [List.length_map, List.length_map]; omega, by rw [List.length_map]; omega, fun lb ts H3 s3 hlb hB htl hZ => ?_⟩
      rw [List.length_map] at htl
      have hPr : PrAt H3 ts (bh r1 r2 p) := by
        have := zipped_pr ts ra.2 rb.2 htl (by omega) hZ
        unfold bh
        rw [enxa, enxb]
        exact this
      have t3 := t2.trans s3
      have nlb1 : lb ≠ lp := fun e => by rw [e, hL] at hlb; cases hlb
      have nlb2 : lb ≠ lr := fun e => by rw [e, hQ] at hlb; cases hlb
      -- the pairs behind
      refine ⟨_, rfl, lb, rfl, ⟨_, SqL.of hB⟩, ?_⟩
      refine for_list (K := K) (a := lb) (xs := ts.map V.ref) (fun j σ H5 => ∃ (ps' : List Pr) (ws' : List Addr) (v10 : Option V), σ = [some (.str x), some (.ref m1), some (.ref m2), some (.ref lp), some (.ref dm), some (.ref lr), some (.ref wq), some (.ref qa), some (.ref qb), some (.ref lb), v10] ∧ Same H H5 ∧ TSame H3 H5 ∧ H5 lb = some (.lst (ts.map V.ref)) ∧ H5 lp = some (.lst (ws'.map V.ref)) ∧ PrAt H5 ws' ps' ∧ H5 dm = some (.dT (numK 0 ps')) ∧ H5 lr = some (.lst (qs.map V.ref)) ∧ (ps'.take d).map (rowP r1 r2 (tw x) ps') = (ps.take d).map (rowP r1 r2 (tw x) ps) ∧ JV r1 r2 many ps' d p j)
        ⟨ps, ws, v10, rfl, t3, fun _ _ e => e, hB, s3 _ _ hL, prAt_tsame hW s3.tups, s3 _ _ hD, s3 _ _ hQ, rfl, B.start hp⟩ (fun j σ H5 _ ⟨_, _, _, _, _, _, h, _⟩ => SqL.of h) ?_ ?_
      · rintro j y σ H5 hy ⟨ps', ws', v10, rfl, t5, ts5, hB5, hL5, hW5, hD5, hQ5, hrow5, V5⟩
        rw [List.getElem?_map] at hy
        cases et : ts[j]? with
        | none => rw [et] at hy; cases hy
        | some t =>
          rw [et] at hy
          cases hy
          have hbl := Paired.length hPr
          have hj : j < (bh r1 r2 p).length := by
            have := (List.getElem?_eq_some_iff.mp et).1
            omega
          obtain ⟨q, hq⟩ : ∃ q, (bh r1 r2 p)[j]? = some q := ⟨(bh r1 r2 p)[j], by simp [hj]⟩
          obtain ⟨t', et', ht'⟩ := prAt_get hPr hq
          rw [et] at et'
          cases et'
          have hT5 : H5 t = some (.tup ((keyP q).map kV)) := ts5 _ _ ht'
          have hml5 := pairs_le V5.nd V5.ok
          have hwl5 := Paired.length hW5
          have hd5 : d < ps'.length := (List.getElem?_eq_some_iff.mp V5.pl).1
          by_cases hm : q ∈ ps'
          · refine ⟨_, rfl, _, rfl, dm, _, rfl, DGet.t (k := keyP q) hD5 hT5, _, rfl, ?_⟩
            rw [numK_some q ps' 0 hm]
            refine iteF ?_
            exact ⟨ps', ws', _, rfl, t5, ts5, hB5, hL5, hW5, hD5, hQ5, hrow5, V5.old hq hm⟩
          · refine ⟨_, rfl, _, rfl, dm, _, rfl, DGet.t (k := keyP q) hD5 hT5, _, rfl, ?_⟩
            rw [numK_none q ps' 0 hm]
            refine iteT ?_
            refine ⟨_, rfl, lp, _, rfl, .inl (SqL.of hL5), _, rfl, _, rfl, dm, _, rfl, DPut.t (k := keyP q) hD5 hT5 (small1000 (by rw [numK_len]; omega)), ?_⟩
            rw [List.length_map, hwl5, numK_put hm]
            have ts6 : TSame H5 (upd H5 dm (.dT (numK 0 (ps' ++ [q])))) := fun c ys e => by rw [upd_ne (ne_of e hD5 (fun z => nomatch z))]; exact e
            have t6 : Same H (upd H5 dm (.dT (numK 0 (ps' ++ [q])))) := t5.upd_free hdmH
            have nlp : lp ≠ dm := ne_of hL5 hD5 (fun z => nomatch z)
            have nlr : lr ≠ dm := ne_of hQ5 hD5 (fun z => nomatch z)
            have nlb : lb ≠ dm := ne_of hB5 hD5 (fun z => nomatch z)
            have hL6 : (upd H5 dm (.dT (numK 0 (ps' ++ [q])))) lp = some (.lst (ws'.map V.ref)) := by rw [upd_ne nlp]; exact hL5
            have hQ6 : (upd H5 dm (.dT (numK 0 (ps' ++ [q])))) lr = some (.lst (qs.map V.ref)) := by rw [upd_ne nlr]; exact hQ5
            have hB6 : (upd H5 dm (.dT (numK 0 (ps' ++ [q])))) lb = some (.lst (ts.map V.ref)) := by rw [upd_ne nlb]; exact hB5
            have hD6 : (upd H5 dm (.dT (numK 0 (ps' ++ [q])))) dm = some (.dT (numK 0 (ps' ++ [q]))) := upd_same
            have hT6 := ts6 _ _ hT5
            generalize upd H5 dm (.dT (numK 0 (ps' ++ [q]))) = H6 at *
            refine ⟨_, rfl, .inl ⟨rfl, _, SqL.of hL6⟩, _, rfl, lp, _, _, rfl, rfl, hL6, small1000 (by rw [List.length_map]; omega), ?_⟩
            have ts7 : TSame H6 (upd H6 lp (.lst (ws'.map V.ref ++ [.ref t]))) := TSame.upd_lst (fun _ _ e => e) hL6
            refine ⟨ps' ++ [q], ws' ++ [t], _, rfl, t6.upd_free hlpH, (ts5.trans ts6).trans ts7, by rw [upd_ne nlb1]; exact hB6, by rw [upd_same, List.map_append]; rfl, Paired.snoc (prAt_tsame hW5 (ts6.trans ts7)) (ts7 _ _ hT6), by rw [upd_ne (Ne.symm nlp)]; exact hD6, by rw [upd_ne (Ne.symm npr)]; exact hQ6, ?_, V5.new G1 G2 hq hm⟩
            rw [rowsP_app (Nat.le_of_lt hd5) V5.cov]
            exact hrow5
      · rintro σ H5 ⟨ps', ws', v10, rfl, t5, ts5, hB5, hL5, hW5, hD5, hQ5, hrow5, V5⟩
        rw [List.length_map] at V5
        have hbl := Paired.length hPr
        have B5 : JB r1 r2 many ps' (d + 1) := V5.done (by omega)
        have hml5 := pairs_le V5.nd V5.ok
        have hd5 : d < ps'.length := (List.getElem?_eq_some_iff.mp V5.pl).1
        have hPr5 : PrAt H5 ts (bh r1 r2 p) := prAt_tsame hPr ts5
        -- the room
        refine ⟨_, rfl, .inl ⟨rfl, _, SqL.of hQ5⟩, _, rfl, _, rfl, qa, _, _, _, rfl, rfl, SqT.of (t5 _ _ c2), rfl, _, rfl, qb, _, _, _, rfl, rfl, SqT.of (t5 _ _ d2), rfl, x, ra.1, rb.1, rfl, ?_⟩
        refine ⟨_, rfl, lb, rfl, ⟨_, SqL.of hB5⟩, fun D hD0 => ?_⟩
        refine lc_list (K := K) (a := lb) (xs := ts.map V.ref) (fun j ys H6 => Same H5 H6 ∧ H6 D = some (.lst ys) ∧ ys.length = j ∧ ys = (((bh r1 r2 p).take j).map (ixP ps')).map V.int) (Nat.le_of_lt (small1000 (by rw [List.length_map]; omega)))
          ⟨(Same.refl H5).upd_free hD0, upd_same, rfl, rfl⟩ (fun j ys H6 h => Nat.le_of_eq h.2.2.1) (fun j ys H6 h => SqL.of (h.1 _ _ hB5)) ?_ ?_
        · rintro j ys H6 y N MM hy ⟨u1, u2, u3, u4⟩ hN' hM
          rw [List.getElem?_map] at hy
          cases et : ts[j]? with
          | none => rw [et] at hy; cases hy
          | some t =>
            rw [et] at hy
            cases hy
            have hj : j < (bh r1 r2 p).length := by
              have := (List.getElem?_eq_some_iff.mp et).1
              omega
            obtain ⟨q, hq⟩ : ∃ q, (bh r1 r2 p)[j]? = some q := ⟨(bh r1 r2 p)[j], by simp [hj]⟩
            obtain ⟨t', et', ht'⟩ := prAt_get hPr5 hq
            rw [et] at et'
            cases et'
            have hm : q ∈ ps' := B5.cov d p (by omega) V5.pl q (List.mem_of_getElem? hq)
            have hg : DGet H6 dm (.ref t) (some (.int (ixP ps' q))) := by
              have z := DGet.t (k := keyP q) (u1 _ _ hD5) (u1 _ _ ht')
              rw [numK_some q ps' 0 hm, Nat.zero_add] at z
              exact z
            refine ⟨_, rfl, _, rfl, dm, _, rfl, hg, ?_⟩
            refine hN' _ H6 u2 ⟨u1.upd_free hD0, upd_same, by rw [List.length_append, List.length_singleton, u3], ?_⟩
            rw [List.take_add_one, hq, List.map_append, List.map_append, u4]
            rfl
        · rintro ys H6 ⟨u1, u2, u3, u4⟩
          rw [List.length_map, List.take_of_length_le (by omega)] at u4
          refine ⟨D, _, rfl, .inl ⟨SqL.of u2, fun zt hzt => ?_⟩⟩
          refine ⟨(by show 2 ≤ sizeLine; decide), fun nq hnq => ?_⟩
          have nzn : zt ≠ nq := fun e => by rw [e, upd_same] at hnq; cases hnq
          have hnq6 : H6 nq = none := by rw [upd_ne (Ne.symm nzn)] at hnq; exact hnq
          have sw : Same H6 (upd (upd H6 zt (.tup ys)) nq (.tup [.bl (tw x ra.1 rb.1), .ref zt])) := ((Same.refl H6).upd_free hzt).upd_free hnq6
          have hnq7 : (upd (upd H6 zt (.tup ys)) nq (.tup [.bl (tw x ra.1 rb.1), .ref zt])) nq = some (.tup [.bl (tw x ra.1 rb.1), .ref zt]) := upd_same
          have hzt7 : (upd (upd H6 zt (.tup ys)) nq (.tup [.bl (tw x ra.1 rb.1), .ref zt])) zt = some (.tup ys) := by rw [upd_ne nzn, upd_same]
          generalize upd (upd H6 zt (.tup ys)) nq (.tup [.bl (tw x ra.1 rb.1), .ref zt]) = H7 at *
          have u7 : Same H5 H7 := u1.trans sw
          refine ⟨lr, _, _, rfl, rfl, u7 _ _ hQ5, small1000 (by rw [List.length_map]; omega), ?_⟩
          have ts8 : TSame H7 (upd H7 lr (.lst (qs.map V.ref ++ [.ref nq]))) := TSame.upd_lst (fun _ _ e => e) (u7 _ _ hQ5)
          have nlr : dm ≠ lr := ne_of hD5 hQ5 (fun z => nomatch z)
          refine ⟨r1.length * r2.length + 1 - (d + 1), by omega, ps', ws', qs ++ [nq], d + 1, _, _, _, _, _, rfl, rfl, (t5.trans u7).upd_free hlrH, by rw [upd_ne npr]; exact u7 _ _ hL5, prAt_tsame hW5 (u7.tups.trans ts8), by rw [upd_ne nlr]; exact u7 _ _ hD5, by rw [upd_same, List.map_append]; rfl, ?_, B5⟩
          rw [List.take_add_one, V5.pl, List.map_append, hrow5]
          refine rows_snoc (rows_tsame (rows_tsame hR (((s3.tups.trans ts5).trans u7.tups))) ts8) (z := zt) ?_ ?_
          · rw [ts8 _ _ hnq7]
            show _ = some (HO.tup [.bl (tw x (gd r1 p.1) (gd r2 p.2)), .ref zt])
            rw [ega, egb]
          · rw [ts8 _ _ hzt7, u4]
            rfl
    · have hge' : ¬ (qs.length : Int) < (ws.length : Int) := fun z => hge (decide_eq_true z)
      have ed : d = ps.length := by omega
      subst ed
      rw [List.take_of_length_le (Nat.le_refl _)] at hR
      refine ⟨_, rfl, m1, _, _, _, rfl, rfl, SqT.of (t2 _ _ a1), rfl, _, rfl, lr, _, rfl, .inl ⟨SqL.of hQ, fun zt hzt => ?_⟩⟩
      refine ⟨(by show 2 ≤ sizeLine; decide), fun m hm => ?_⟩
      have nzm : zt ≠ m := fun e => by rw [e, upd_same] at hm; cases hm
      have hm2 : H2 m = none := by rw [upd_ne (Ne.symm nzm)] at hm; exact hm
      have sw : Same H2 (upd (upd H2 zt (.tup (qs.map V.ref))) m (.tup [.int many, .ref zt])) := ((Same.refl H2).upd_free hzt).upd_free hm2
      have GJ : Good many (joinM r1 r2 (tw x) ps) := join_good G1 G2 B (by omega)
      refine ⟨m, many, joinM r1 r2 (tw x) ps, rfl, ⟨zt, qs, upd_same, by rw [upd_ne nzm, upd_same], hR.same sw⟩, GJ, fun mo ns ch H' s' M' C LBn => ?_⟩
      refine k mo _ H' ((t2.trans sw).trans s') M' ⟨can_of GJ C LBn, ?_, fun run hrun => ?_⟩
      · have := ch_len LBn.nd LBn.ok
        rw [join_len] at this
        unfold minM
        rw [List.length_map]
        omega
      · rw [← min_whole GJ C LBn run hrun]
        have := join_run (f := tw x) G1 G2 B run (0, 0) (List.mem_of_getElem? B.hd) hrun
        rw [ixP_zero B] at this
        exact this
end
end K25
namespace K26
open PySem L2 K20 K21 K60 K23 K24 K22 K25

theorem ints_inj : ∀ a b : List Int, PyData.eqvAll (a.map PyData.int) (b.map PyData.int) = true → a = b
  | [], [], _ => rfl
  | [], _ :: _, h => by simp [PyData.eqvAll] at h
  | _ :: _, [], h => by simp [PyData.eqvAll] at h
  | x :: a, y :: b, h => by
    rw [List.map_cons, List.map_cons, PyData.eqvAll, Bool.and_eq_true, PyData.eqv] at h
    rw [ints_inj a b h.2, show x = y by simpa using h.1]
theorem rows_inj : ∀ a b : Rms, PyData.eqvAll (a.map dR) (b.map dR) = true → a = b
  | [], [], _ => rfl
  | [], _ :: _, h => by simp [PyData.eqvAll] at h
  | _ :: _, [], h => by simp [PyData.eqvAll] at h
  | x :: a, y :: b, h => by
    rw [List.map_cons, List.map_cons, PyData.eqvAll, Bool.and_eq_true] at h
    have h1 := h.1
    unfold dR at h1
    rw [PyData.eqv, PyData.eqvAll, PyData.eqvAll, PyData.eqv, PyData.eqv, Bool.and_eq_true, Bool.and_eq_true] at h1
    have e1 : x.1 = y.1 := by simpa using h1.1
    have e2 := ints_inj _ _ h1.2.1
    rw [rows_inj a b h.2, show x = y from Prod.ext e1 e2]
theorem m_inj {many : Int} {a b : Rms} : PyData.eqv (dM many a) (dM many b) = decide (a = b) := by
  by_cases e : a = b
  · subst e
    rw [decide_eq_true rfl]
    exact SeqAt.eqv_refl _ (dM_ok _ _).1
  · rw [decide_eq_false e]
    cases h : PyData.eqv (dM many a) (dM many b) with
    | false => rfl
    | true =>
      refine absurd ?_ e
      unfold dM at h
      rw [PyData.eqv, PyData.eqvAll, PyData.eqvAll, PyData.eqv, PyData.eqv, Bool.and_eq_true, Bool.and_eq_true] at h
      exact rows_inj a b h.2.1
theorem eqv_self {many : Int} {a : Rms} : PyData.eqv (dM many a) (dM many a) = true := by rw [m_inj, decide_eq_true rfl]

def spRu : Sp := fun vs H Q _ => ∃ (m1 m2 m3 : Addr) (many : Int) (r1 r2 r3 : Rms), vs = [.ref m1, .ref m2, .ref m3] ∧ MAt H m1 many r1 ∧ MAt H m2 many r2 ∧ MAt H m3 many r3 ∧ Good many r1 ∧ Good many r2 ∧ Good many r3 ∧ r1.length ≤ 3 ∧ r2.length ≤ 3 ∧ r3.length ≤ 3 ∧ ∀ H', Q (.bl true) H'
theorem tw_both (b c : Bool) : tw "both" b c = (b && c) := rfl
theorem tw_either (b c : Bool) : tw "either" b c = (b || c) := rfl
theorem tw_less (b c : Bool) : tw "less" b c = (b && !c) := rfl
theorem tw_unlike (b c : Bool) : tw "unlike" b c = (b != c) := rfl
abbrev nRu : List Str := ["_law_one", "_law_other_here", "_law_third", "_law_here", "_law_whole_here"]
abbrev pRu : List Str := ["_law_one", "_law_other_here", "_law_third"]
section
variable {P : Program} {w : World} {K : PySem.W.Frag} {mg : Str → Option Value} {base : Heap}
theorem scRu : FnScope nRu pRu (defScope sRu) := ⟨rfl, rfl, rfl, by decide +kernel, rfl, by decide +kernel, by decide +kernel⟩
theorem ok_ru {f fL fJ : Addr} {fd fdL fdJ : FuncData} (F : Fun K "_law_rules" "_law_rules" sRu f fd) (T : Txt mg)
    (GL : FnOk P w K mg base CX0 3 fL fdL ["machine"] spLs) (FL : Fun K "least" "least" sLs fL fdL) (bL : Binds K fdL ["machine"] []) (gL : mg "least" = some (.ref fL))
    (GJ : FnOk P w K mg base CX0 4 fJ fdJ ["word", "one", "other"] spJo) (FJ : Fun K "joined" "joined" sJo fJ fdJ) (bJ : Binds K fdJ ["word", "one", "other"] []) (gJ : mg "joined" = some (.ref fJ)) :
    FnOk P w K mg base CX0 5 f fd pRu spRu := by
  refine F.ok scRu (fun vs H Q E h => ?_) (fun cdv A outer s H vs Q E hr h => ?_)
  · obtain ⟨m1, m2, m3, many, r1, r2, r3, rfl, _⟩ := h
    rfl
  · obtain ⟨m1, m2, m3, many, r1, r2, r3, rfl, M1, M2, M3, G1, G2, G3, l1, l2, l3, k⟩ := h
    have hr3 : Room 3 _ := hr.mono (by decide)
    have hu64 := hr.units
    have mul3 : ∀ {a b : Nat}, a ≤ 3 → b ≤ 3 → a * b ≤ 9 := fun ha hb => Nat.mul_le_mul ha hb
    have mul9 : ∀ {a b : Nat}, a ≤ 9 → b ≤ 9 → a * b ≤ 100 := fun ha hb => Nat.le_trans (Nat.mul_le_mul ha hb) (by decide)
    refine ⟨_, pss_cons (ps_set (i := 3) scRu.nd rfl (Or.inl rfl) (pe_call GJ hr rfl gJ FJ.kp bJ .nil pass0 (pa_cons pe_str (pa_cons (pv 0) (pa_cons (pe_call GJ hr rfl gJ FJ.kp bJ .nil pass0 (pa_cons pe_str (pa_cons (pv 1) (pa_cons (pv 2) pa_nil)))) pa_nil)))))
      (pss_cons (ps_if (pt_cmpR (op_neD hu64) (pv 3) (pe_call GJ hr rfl gJ FJ.kp bJ .nil pass0 (pa_cons pe_str (pa_cons (pe_call GJ hr rfl gJ FJ.kp bJ .nil pass0 (pa_cons pe_str (pa_cons (pv 0) (pa_cons (pv 1) pa_nil)))) (pa_cons (pe_call GJ hr rfl gJ FJ.kp bJ .nil pass0 (pa_cons pe_str (pa_cons (pv 0) (pa_cons (pv 2) pa_nil)))) pa_nil)))) (nomark _)) (pss_one (ps_ret pe_bl)) pss_nil)
      (pss_cons (ps_set (i := 4) scRu.nd rfl (Or.inl rfl) (pe_call GL hr3 rfl gL FL.kp bL .nil pass0 (pa_cons (pv 0) pa_nil)))
      (pss_cons (ps_if (pt_cmpR (op_neD hu64) (pe_call GJ hr rfl gJ FJ.kp bJ .nil pass0 (pa_cons pe_str (pa_cons (pe_call GJ hr rfl gJ FJ.kp bJ .nil pass0 (pa_cons pe_str (pa_cons (pv 0) (pa_cons (pv 1) pa_nil)))) (pa_cons (pe_call GJ hr rfl gJ FJ.kp bJ .nil pass0 (pa_cons pe_str (pa_cons (pv 0) (pa_cons (pv 1) pa_nil)))) pa_nil)))) (pv 4) (nomark _)) (pss_one (ps_ret pe_bl)) pss_nil)
      (pss_cons (ps_if (pt_cmpR (op_neD hu64) (pe_call GJ hr rfl gJ FJ.kp bJ .nil pass0 (pa_cons pe_str (pa_cons (pe_call GJ hr rfl gJ FJ.kp bJ .nil pass0 (pa_cons pe_str (pa_cons (pv 0) (pa_cons (pv 1) pa_nil)))) (pa_cons (pv 1) pa_nil)))) (pv 4) (nomark _)) (pss_one (ps_ret pe_bl)) pss_nil)
      (pss_one (ps_ret (pe_and (pe_cmpR (op_eqD hu64) (pe_call GJ hr rfl gJ FJ.kp bJ .nil pass0 (pa_cons pe_str (pa_cons (pv 0) (pa_cons (pv 0) pa_nil)))) (pv 4) (nomark _)) (pe_one (pe_cmpR (op_eqD hu64) (pe_call GJ hr rfl gJ FJ.kp bJ .nil pass0 (pa_cons pe_str (pa_cons (pv 0) (pa_cons (pv 0) pa_nil)))) (pv 4) (nomark _)))))))))), ?_⟩
    refine ⟨_, rfl, _, rfl, _, rfl, _, m2, m3, many, r2, r3, rfl, M2, M3, G2, G3, Nat.le_trans (mul3 l2 l3) (by decide), fun ma Ma Ha sa MA JA => ?_⟩
    have la : Ma.length ≤ 9 := Nat.le_trans JA.len (mul3 l2 l3)
    refine ⟨_, m1, ma, many, r1, Ma, rfl, M1.same sa, MA, G1, JA.can.good, mul9 (Nat.le_trans l1 (by decide)) la, fun mh Mh Hb sb MH JH => ?_⟩
    have tb := sa.trans sb
    refine ⟨_, rfl, _, rfl, _, rfl, _, m1, m2, many, r1, r2, rfl, M1.same tb, M2.same tb, G1, G2, Nat.le_trans (mul3 l1 l2) (by decide), fun mc Mc Hc sc' MC JC => ?_⟩
    have tc := tb.trans sc'
    refine ⟨_, rfl, _, rfl, _, m1, m3, many, r1, r3, rfl, M1.same tc, M3.same tc, G1, G3, Nat.le_trans (mul3 l1 l3) (by decide), fun md Md Hd sd MD JD => ?_⟩
    have td := tc.trans sd
    refine ⟨_, mc, md, many, Mc, Md, rfl, MC.same sd, MD, JC.can.good, JD.can.good, mul9 (Nat.le_trans JC.len (mul3 l1 l2)) (Nat.le_trans JD.len (mul3 l1 l3)), fun me Me He se ME JE => ?_⟩
    have te := td.trans se
    have e1 : Mh = Me := canon JH.can JE.can fun run hrun => by
      rw [JH.run run hrun, JA.run run hrun, JE.run run hrun, JC.run run hrun, JD.run run hrun, tw_both, tw_either, tw_either, tw_both, tw_both]
      cases gd r1 (walkM r1 0 run) <;> cases gd r2 (walkM r2 0 run) <;> cases gd r3 (walkM r3 0 run) <;> rfl
    subst e1
    refine ⟨dM many Mh, dM many Mh, m_dat (MH.same ((sc'.trans sd).trans se)), m_dat ME, dM_ok _ _, dM_ok _ _, _, rfl, ?_⟩
    rw [eqv_self]
    refine iteF ?_
    refine ⟨_, rfl, m1, many, r1, rfl, M1.same te, G1, fun ml n1 c1 Hf sf ML C1 B1 => ?_⟩
    have KL := can_of G1 C1 B1
    have wl : Bi r1 (minM r1 n1 c1) many 0 0 := min_whole G1 C1 B1
    generalize minM r1 n1 c1 = Lm at *
    have tf := te.trans sf
    refine ⟨_, rfl, _, rfl, _, m1, m2, many, r1, r2, rfl, M1.same tf, M2.same tf, G1, G2, Nat.le_trans (mul3 l1 l2) (by decide), fun mg' Mg Hg sg MG JG => ?_⟩
    have tg := tf.trans sg
    refine ⟨_, rfl, _, rfl, _, m1, m2, many, r1, r2, rfl, M1.same tg, M2.same tg, G1, G2, Nat.le_trans (mul3 l1 l2) (by decide), fun mi Mi Hi si MI JI => ?_⟩
    have ti := tg.trans si
    refine ⟨_, mg', mi, many, Mg, Mi, rfl, MG.same si, MI, JG.can.good, JI.can.good, mul9 (Nat.le_trans JG.len (mul3 l1 l2)) (Nat.le_trans JI.len (mul3 l1 l2)), fun mj Mj Hj sj MJ JJ => ?_⟩
    have tj := ti.trans sj
    have e2 : Mj = Lm := canon JJ.can KL fun run hrun => by
      rw [← wl run hrun, JJ.run run hrun, JG.run run hrun, JI.run run hrun, tw_either, tw_less, tw_both]
      cases gd r1 (walkM r1 0 run) <;> cases gd r2 (walkM r2 0 run) <;> rfl
    subst e2
    refine ⟨_, rfl, dM many Mj, dM many Mj, m_dat MJ, m_dat (ML.same ((sg.trans si).trans sj)), dM_ok _ _, dM_ok _ _, _, rfl, ?_⟩
    rw [eqv_self]
    refine iteF ?_
    refine ⟨_, rfl, _, rfl, _, m1, m2, many, r1, r2, rfl, M1.same tj, M2.same tj, G1, G2, Nat.le_trans (mul3 l1 l2) (by decide), fun mk Mk Hk sk MK JK => ?_⟩
    have tk := tj.trans sk
    refine ⟨_, rfl, _, mk, m2, many, Mk, r2, rfl, MK, M2.same tk, JK.can.good, G2, mul9 (Nat.le_trans JK.len (mul3 l1 l2)) (Nat.le_trans l2 (by decide)), fun mn Mn Hn sn MN JN => ?_⟩
    have tn := tk.trans sn
    have e3 : Mn = Mj := canon JN.can KL fun run hrun => by
      rw [← wl run hrun, JN.run run hrun, JK.run run hrun, tw_unlike, tw_unlike]
      cases gd r1 (walkM r1 0 run) <;> cases gd r2 (walkM r2 0 run) <;> rfl
    subst e3
    have tfn := (((sg.trans si).trans sj).trans sk).trans sn
    refine ⟨_, rfl, dM many Mn, dM many Mn, m_dat MN, m_dat (ML.same tfn), dM_ok _ _, dM_ok _ _, _, rfl, ?_⟩
    rw [eqv_self]
    refine iteF ?_
    refine ⟨_, rfl, _, rfl, _, m1, m1, many, r1, r1, rfl, M1.same tn, M1.same tn, G1, G1, Nat.le_trans (mul3 l1 l1) (by decide), fun mo Mo Ho so MO JO => ?_⟩
    have e4 : Mo = Mn := canon JO.can KL fun run hrun => by
      rw [← wl run hrun, JO.run run hrun, tw_both]
      cases gd r1 (walkM r1 0 run) <;> rfl
    subst e4
    refine ⟨_, rfl, dM many Mo, dM many Mo, m_dat MO, m_dat (ML.same (tfn.trans so)), dM_ok _ _, dM_ok _ _, ?_⟩
    rw [eqv_self]
    refine ⟨true, rfl, iteT ?_⟩
    have to := tn.trans so
    refine ⟨_, rfl, _, rfl, _, m1, m1, many, r1, r1, rfl, M1.same to, M1.same to, G1, G1, Nat.le_trans (mul3 l1 l1) (by decide), fun mp Mp Hp sp MP JP => ?_⟩
    have e5 : Mp = Mo := canon JP.can KL fun run hrun => by
      rw [← wl run hrun, JP.run run hrun, tw_either]
      cases gd r1 (walkM r1 0 run) <;> rfl
    subst e5
    refine ⟨_, rfl, dM many Mp, dM many Mp, m_dat MP, m_dat (ML.same ((tfn.trans so).trans sp)), dM_ok _ _, dM_ok _ _, ?_⟩
    rw [eqv_self]
    exact k _
end
end K26
namespace K26
open PySem L2 K20 K21 K60 K23 K24 K22 K25

def noM (many : Int) : Rms := [(false, List.replicate many.toNat 0)]
theorem noM_gd (many x : Int) : gd (noM many) x = false := by
  unfold gd noM
  cases x.toNat with
  | zero => rfl
  | succ n => rfl
theorem row_zeros : ∀ n : Nat, rowN (some 1) (List.replicate n 0) = some 1
  | 0 => rfl
  | n + 1 => by
    rw [List.replicate_succ]
    exact row_zeros n
theorem noM_can {many : Int} (h : 0 ≤ many ∧ many ≤ 8) : Can many (noM many) := by
  have ea : rowsN ((noM many).map (·.2)) = some 1 := row_zeros many.toNat
  refine ⟨⟨h, (by show 0 < 1; decide), (by show 1 ≤ 100; decide), fun r hr => ?_⟩, ⟨fun d hd => ?_, 1, ea⟩, ea, fun i j hi hj _ => ?_⟩
  · unfold noM at hr
    rw [List.mem_singleton] at hr
    subst hr
    refine ⟨by rw [List.length_replicate]; omega, fun n hn => ?_⟩
    rw [List.eq_of_mem_replicate hn]
    exact ⟨Int.le_refl 0, by show (0 : Int) < 1; decide⟩
  · have hd' : d < 1 := hd
    have : d = 0 := by omega
    subst this
    exact ⟨1, rfl, by decide⟩
  · have hi' : i < 1 := hi
    have hj' : j < 1 := hj
    omega
theorem rep_flat (n : Nat) : (List.replicate n [V.int 0]).flatten = (List.replicate n (0 : Int)).map V.int := by
  induction n with
  | zero => rfl
  | succ n ih => rw [List.replicate_succ, List.flatten_cons, ih, List.replicate_succ, List.map_cons]; rfl

abbrev nLw : List Str := ["_law_script", "_law_machine_here", "_law_start", "_law_other_here", "_law_third", "_law_same", "_law_none"]
section
variable {P : Program} {w : World} {K : PySem.W.Frag} {mg : Str → Option Value} {base : Heap}
theorem scLaw : FnScope nLw ["_law_script"] (defScope sLaw) := ⟨rfl, rfl, rfl, by decide +kernel, rfl, by decide +kernel, by decide +kernel⟩
theorem ok_law {f fF fK fX fR fV fM fL fT fJ fY fC fH fO fU : Addr} {fd fdF fdK fdX fdR fdV fdM fdL fdT fdJ fdY fdC fdH fdO fdU : FuncData} (F : Fun K "law" "law" sLaw f fd) (T : Txt mg)
    (FF : Fun K "finer_kinds" "finer_kinds" sFk fF fdF) (bF : Binds K fdF ["rooms", "kinds"] []) (gF : mg "finer_kinds" = some (.ref fF))
    (FK : Fun K "kinds_by_length" "kinds_by_length" sKl fK fdK) (bK : Binds K fdK ["rooms"] []) (gK : mg "kinds_by_length" = some (.ref fK))
    (FX : Fun K "parting_letter" "parting_letter" sPl fX fdX) (bX : Binds K fdX ["one", "other", "kinds"] []) (gX : mg "parting_letter" = some (.ref fX))
    (FR : Fun K "rooms_part" "rooms_part" sRp fR fdR) (bR : Binds K fdR ["machine", "one", "other"] []) (gR : mg "rooms_part" = some (.ref fR))
    (FV : Fun K "moved_room" "moved_room" sMv fV fdV) (bV : Binds K fdV ["room", "far"] []) (gV : mg "moved_room" = some (.ref fV))
    (FY : Fun K "machines_part" "machines_part" sMp fY fdY) (bY : Binds K fdY ["one", "other"] []) (gY : mg "machines_part" = some (.ref fY))
    (FL : Fun K "least" "least" sLs fL fdL) (bL : Binds K fdL ["machine"] []) (gL : mg "least" = some (.ref fL))
    (FM : Fun K "merged_room" "merged_room" sMr fM fdM) (bM : Binds K fdM ["room", "kinds", "numbers"] []) (gM : mg "merged_room" = some (.ref fM))
    (FT : Fun K "joined_truth" "joined_truth" sJt fT fdT) (bT : Binds K fdT ["word", "one", "other"] []) (gT : mg "joined_truth" = some (.ref fT))
    (FJ : Fun K "joined" "joined" sJo fJ fdJ) (bJ : Binds K fdJ ["word", "one", "other"] []) (gJ : mg "joined" = some (.ref fJ))
    (FC : Fun K "_law_cell_at" "_law_cell_at" sCe fC fdC) (bC : Binds K fdC ["_law_script", "_law_k"] []) (gC : mg "_law_cell_at" = some (.ref fC))
    (FH : Fun K "_law_machine" "_law_machine" sMa fH fdH) (bH : Binds K fdH ["_law_script", "_law_start", "_law_most"] []) (gH : mg "_law_machine" = some (.ref fH))
    (FO : Fun K "_law_other" "_law_other" sOt fO fdO) (bO : Binds K fdO ["_law_script", "_law_start", "_law_machine_here"] []) (gO : mg "_law_other" = some (.ref fO))
    (FU : Fun K "_law_rules" "_law_rules" sRu fU fdU) (bU : Binds K fdU pRu []) (gU : mg "_law_rules" = some (.ref fU)) :
    FnOk P w K mg base CX0 6 f fd ["_law_script"] (spLaw K) := by
  have GL : FnOk P w K mg base CX0 3 fL fdL ["machine"] spLs := ok_ls FL T FF bF gF FK bK gK FM bM gM
  have GJ : FnOk P w K mg base CX0 4 fJ fdJ ["word", "one", "other"] spJo := ok_jo FJ T FT bT gT FF bF gF FK bK gK FM bM gM FL bL gL
  have GY : FnOk P w K mg base CX0 4 fY fdY ["one", "other"] spMp := ok_mp FY T FF bF gF FK bK gK FX bX gX FR bR gR FV bV gV
  have GH : FnOk P w K mg base CX0 2 fH fdH ["_law_script", "_law_start", "_law_most"] (spMg K) := ok_ma FH T FC bC gC
  have GO : FnOk P w K mg base CX0 2 fO fdO ["_law_script", "_law_start", "_law_machine_here"] (spOt K) := ok_ot FO T FC bC gC
  have GU : FnOk P w K mg base CX0 5 fU fdU pRu spRu := ok_ru FU T GL FL bL gL GJ FJ bJ gJ
  refine F.ok scLaw (fun vs H Q E h => ?_) (fun cdv A outer s H vs Q E hr h => ?_)
  · obtain ⟨a, ns, rfl, _⟩ := h
    rfl
  · obtain ⟨a, ns, rfl, hS, hlen, k⟩ := h
    have hr2 : Room 2 _ := hr.mono (by decide)
    have hr3 : Room 3 _ := hr.mono (by decide)
    have hr4 : Room 4 _ := hr.mono (by decide)
    have hu64 := hr.units
    refine ⟨_, pss_cons (ps_set (i := 1) scLaw.nd rfl (Or.inl rfl) (pe_call GH hr2 rfl gH FH.kp bH .nil pass0 (pa_cons (pv 0) (pa_cons pe_int (pa_cons pe_int pa_nil)))))
      (pss_cons (ps_cut (ps_set (i := 2) scLaw.nd rfl (Or.inl rfl) (pe_op op_add pe_int (pe_op op_mul (pe_callB call_len_seq (by rfl) T.len PySem.boot_len (pa_cons (pe_ix ix_tup (pv 1) pe_int (fun _ _ => rfl)) pa_nil)) (pe_op op_add (pe_ix ix_tup (pv 1) pe_int (fun _ _ => rfl)) pe_int)))))
      (pss_cons (ps_set (i := 3) scLaw.nd rfl (Or.inl rfl) (pe_call GO hr2 rfl gO FO.kp bO .nil pass0 (pa_cons (pv 0) (pa_cons (pv 2) (pa_cons (pv 1) pa_nil)))))
      (pss_cons (ps_set (i := 4) scLaw.nd rfl (Or.inl rfl) (pe_call GO hr2 rfl gO FO.kp bO .nil pass0 (pa_cons (pv 0) (pa_cons (pe_op op_add (pe_op op_add (pv 2) pe_int) (pe_op op_mul pe_int (pe_op op_add (pe_ix ix_tup (pv 1) pe_int (fun _ _ => rfl)) pe_int))) (pa_cons (pv 3) pa_nil)))))
      (pss_cons (ps_set (i := 5) scLaw.nd rfl (Or.inl rfl) (pe_cmp (pc_isN (pe_call GY hr4 rfl gY FY.kp bY .nil pass0 (pa_cons (pv 1) (pa_cons (pv 3) pa_nil))))))
      (pss_cons (ps_if (pt_cmpR op_ne (pv 5) (pe_cmpR (op_eqD hu64) (pe_call GL hr3 rfl gL FL.kp bL .nil pass0 (pa_cons (pv 1) pa_nil)) (pe_call GL hr3 rfl gL FL.kp bL .nil pass0 (pa_cons (pv 3) pa_nil)) (nomark _)) (nomark _)) (pss_one (ps_ret pe_bl)) pss_nil)
      (pss_cons (ps_set (i := 6) scLaw.nd rfl (Or.inl rfl) (pe_tup (pa_cons (pe_ix ix_tup (pv 1) pe_int (fun _ _ => rfl)) (pa_cons (pe_tup (pa_cons (pe_tup (pa_cons pe_bl (pa_cons (pe_op op_repT (pe_tup (pa_cons pe_int pa_nil)) (pe_ix ix_tup (pv 1) pe_int (fun _ _ => rfl))) pa_nil))) pa_nil)) pa_nil))))
      (pss_cons (ps_if (pt_cmpR op_ne (pv 5) (pe_cmpR (op_eqD hu64) (pe_call GJ hr4 rfl gJ FJ.kp bJ .nil pass0 (pa_cons pe_str (pa_cons (pv 1) (pa_cons (pv 3) pa_nil)))) (pv 6) (nomark _)) (nomark _)) (pss_one (ps_ret pe_bl)) pss_nil)
      (pss_one (ps_ret (pe_call GU hr rfl gU FU.kp bU .nil pass0 (pa_cons (pv 1) (pa_cons (pv 3) (pa_cons (pv 4) pa_nil))))))))))))), ?_⟩
    refine ⟨_, rfl, a, ns, 0, 3, rfl, hS, Int.le_refl 0, by decide, by decide, by decide, fun m1 many r1 H1 s1 M1 G1 h1 => ?_⟩
    obtain ⟨pr1, qs1, a1, a2, a3⟩ := id M1
    have g1mn := G1.mn
    have g1pos := G1.pos
    have hql : (qs1.map V.ref).length = r1.length := by rw [List.length_map]; exact a3.1
    have z0 : 0 ≤ (r1.length : Int) * (many + 1) := Int.mul_nonneg (by omega) (by omega)
    have z1 : (r1.length : Int) * (many + 1) ≤ 3 * 9 := Int.mul_le_mul (by omega) (by omega) (by omega) (by omega)
    refine ⟨fun σ' H' => ∃ st : Int, 0 ≤ st ∧ st ≤ 200 ∧ σ' = [some (.ref a), some (.ref m1), some (.int st), none, none, none, none] ∧ H' = H1, ?_, ?_⟩
    · refine ⟨_, rfl, m1, _, _, _, rfl, rfl, SqT.of a1, rfl, pr1, _, rfl, .inr (SqT.of a2), _, rfl, m1, _, _, _, rfl, rfl, SqT.of a1, rfl, _, _, rfl, rfl, _, _, rfl, rfl, .inl ⟨by omega, by omega⟩, _, _, rfl, rfl, ?_⟩
      rw [hql]
      exact ⟨1 + (r1.length : Int) * (many + 1), by omega, by omega, rfl, rfl⟩
    rintro σ' H' ⟨st, st0, st1, rfl, hHH⟩
    rw [hHH]
    clear hHH H'
    have l1 : r1.length ≤ 3 := by omega
    refine ⟨_, rfl, _, rfl, _, rfl, a, m1, ns, st, many, r1, rfl, s1.seq hS, st0, by omega, M1, G1, l1, fun m2 r2 H2 s2 M2 G2 h2 => ?_⟩
    have l2 : r2.length ≤ 3 := h2
    refine ⟨_, rfl, _, rfl, _, _, rfl, rfl, _, rfl, m1, _, _, _, rfl, rfl, SqT.of (s2 _ _ a1), rfl, _, _, rfl, rfl, _, _, rfl, rfl, .inl ⟨by decide, by decide⟩, _, _, rfl, rfl, _, rfl, a, m2, ns, st + 1 + 3 * (many + 1), many, r2, rfl, (s1.trans s2).seq hS, by omega, by omega, M2, G2, l2, fun m3 r3 H3 s3 M3 G3 h3 => ?_⟩
    have l3 : r3.length ≤ 3 := h3
    have t3 := s2.trans s3
    refine ⟨_, rfl, _, rfl, m1, m2, many, r1, r2, rfl, M1.same t3, M2.same s3, G1, G2, by omega, fun v H4 s4 hres => ?_⟩
    have t4 := t3.trans s4
    refine ⟨_, rfl, _, rfl, m1, many, r1, rfl, M1.same t4, G1, fun ml n1 c1 H5 s5 ML C1 B1 => ?_⟩
    have t5 := t4.trans s5
    refine ⟨_, rfl, m2, many, r2, rfl, M2.same ((s3.trans s4).trans s5), G2, fun mo n2 c2 H6 s6 MO C2 B2 => ?_⟩
    have K1 := can_of G1 C1 B1
    have K2 := can_of G2 C2 B2
    have w1 : Bi r1 (minM r1 n1 c1) many 0 0 := min_whole G1 C1 B1
    have w2 : Bi r2 (minM r2 n2 c2) many 0 0 := min_whole G2 C2 B2
    have iff1 : minM r1 n1 c1 = minM r2 n2 c2 ↔ Bi r1 r2 many 0 0 := by
      constructor
      · intro e
        rw [← e] at w2
        exact w1.trans w2.symm
      · intro h
        exact canon K1 K2 (w1.symm.trans (h.trans w2))
    refine ⟨dM many (minM r1 n1 c1), dM many (minM r2 n2 c2), m_dat (ML.same s6), m_dat MO, dM_ok _ _, dM_ok _ _, rfl, _, rfl, ?_⟩
    rw [m_inj]
    have sam : decide (v = V.non) = decide (minM r1 n1 c1 = minM r2 n2 c2) := by
      rcases hres with ⟨e, hb⟩ | ⟨p, run, e, hp, hf, hl⟩
      · rw [decide_eq_true e, decide_eq_true (iff1.mpr hb)]
      · rw [decide_eq_false (by rw [e]; exact fun z => nomatch z), decide_eq_false]
        intro z
        exact hf.ne (iff1.mp z run hf.lts)
    rw [sam, if_neg (show ¬ (false = true) by decide), decide_eq_true rfl]
    refine iteF ?_
    have t6 := t5.trans s6
    -- none
    refine ⟨_, rfl, m1, _, _, _, rfl, rfl, SqT.of (t6 _ _ a1), rfl, (by show 1 ≤ sizeLine; decide), fun z0' hz0 => ?_⟩
    have w7 : Same H6 (upd H6 z0' (.tup [.int 0])) := (Same.refl H6).upd_free hz0
    refine ⟨_, rfl, m1, _, _, _, rfl, rfl, SqT.of (w7 _ _ (t6 _ _ a1)), rfl, z0', many, [.int 0], rfl, rfl, upd_same, g1mn.1, by omega, by decide, by decide, fun zp H7 s7 hzp => ?_⟩
    rw [rep_flat] at hzp
    refine ⟨(by show 2 ≤ sizeLine; decide), fun q1 hq1 => ⟨(by show 1 ≤ sizeLine; decide), fun q2 hq2 => ⟨(by show 2 ≤ sizeLine; decide), fun mn hmn => ?_⟩⟩⟩
    have u1 : Same H7 (upd H7 q1 (.tup [.bl false, .ref zp])) := (Same.refl H7).upd_free hq1
    have hq1' : (upd H7 q1 (.tup [.bl false, .ref zp])) q1 = some (.tup [.bl false, .ref zp]) := upd_same
    generalize upd H7 q1 (.tup [.bl false, .ref zp]) = H8 at *
    have u2 : Same H8 (upd H8 q2 (.tup [.ref q1])) := (Same.refl H8).upd_free hq2
    have hq2' : (upd H8 q2 (.tup [.ref q1])) q2 = some (.tup [.ref q1]) := upd_same
    generalize upd H8 q2 (.tup [.ref q1]) = H9 at *
    have u3 : Same H9 (upd H9 mn (.tup [.int many, .ref q2])) := (Same.refl H9).upd_free hmn
    have hmn' : (upd H9 mn (.tup [.int many, .ref q2])) mn = some (.tup [.int many, .ref q2]) := upd_same
    generalize upd H9 mn (.tup [.int many, .ref q2]) = H10 at *
    have MN : MAt H10 mn many (noM many) := ⟨q2, [q1], hmn', u3 _ _ hq2', rfl, fun i r e => by
      cases i with
      | zero =>
        cases e
        exact ⟨q1, zp, rfl, u3 _ _ (u2 _ _ hq1'), u3 _ _ (u2 _ _ (u1 _ _ hzp))⟩
      | succ i => simp [noM] at e⟩
    have t10 : Same H1 H10 := t6.trans (w7.trans (s7.trans (u1.trans (u2.trans u3))))
    have t10' : Same H2 H10 := (((s3.trans s4).trans s5).trans s6).trans (w7.trans (s7.trans (u1.trans (u2.trans u3))))
    refine ⟨_, rfl, _, rfl, _, rfl, _, m1, m2, many, r1, r2, rfl, M1.same t10, M2.same t10', G1, G2, Nat.le_trans (Nat.mul_le_mul l1 l2) (by decide), fun mj Mj H11 s11 MJ JJ => ?_⟩
    refine ⟨_, rfl, dM many Mj, dM many (noM many), m_dat MJ, m_dat (MN.same s11), dM_ok _ _, dM_ok _ _, rfl, _, rfl, ?_⟩
    rw [m_inj]
    have iff2 : Mj = noM many ↔ Bi r1 r2 many 0 0 := by
      constructor
      · intro e run hrun
        have q := JJ.run run hrun
        rw [e, noM_gd, tw_unlike] at q
        revert q
        cases gd r1 (walkM r1 0 run) <;> cases gd r2 (walkM r2 0 run) <;> simp
      · intro h
        refine canon JJ.can (noM_can g1mn) fun run hrun => ?_
        rw [JJ.run run hrun, noM_gd, tw_unlike, h run hrun]
        cases gd r2 (walkM r2 0 run) <;> rfl
    have sam2 : decide (minM r1 n1 c1 = minM r2 n2 c2) = decide (Mj = noM many) := decide_eq_decide.mpr (iff1.trans iff2.symm)
    rw [sam2, if_neg (show ¬ (false = true) by decide), decide_eq_true rfl]
    refine iteF ?_
    have t11 := t10.trans s11
    exact ⟨_, rfl, _, rfl, _, rfl, m1, m2, m3, many, r1, r2, r3, rfl, M1.same t11, M2.same (t10'.trans s11), M3.same ((((s4.trans s5).trans s6).trans (w7.trans (s7.trans (u1.trans (u2.trans u3))))).trans s11), G1, G2, G3, l1, l2, l3, fun H' => k H'⟩
end
end K26
namespace K26
open PySem L2 K20 K21 K60 K23
theorem all_mk {l : PySem.W.OpenLaw} {w : World} {K : PySem.W.Frag} {h : Heap} {mg : Str → Option Value} {fa fF fK fX fR fV fY fL fM fT fJ fC fH fO fU fZ : Addr} (X : K.In h) (G : h.Ns mainGlobals mg) (hfa : mg "law" = some (.ref fa))
    {odF anF odK anK odX anX odR anR odV anV odY anY odL anL odM anM odT anT odJ anJ odC anC odH anH odO anO odU anU odZ anZ : Option Addr} {slF slK slX slR slV slY slL slM slT slJ slC slH slO slU slZ : Array (Option Value)} {ocF kVF dcF pmF cdF ctF ocK kVK dcK pmK cdK ctK ocX kVX dcX pmX cdX ctX ocR kVR dcR pmR cdR ctR ocV kVV dcV pmV cdV ctV ocY kVY dcY pmY cdY ctY ocL kVL dcL pmL cdL ctL ocM kVM dcM pmM cdM ctM ocT kVT dcT pmT cdT ctT ocJ kVJ dcJ pmJ cdJ ctJ ocC kVC dcC pmC cdC ctC ocH kVH dcH pmH cdH ctH ocO kVO dcO pmO cdO ctO ocU kVU dcU pmU cdU ctU ocZ kVZ dcZ pmZ cdZ ctZ : Value}
    (aF : PySem.W.nsIn K mainGlobals "finer_kinds" = some (some (.ref fF))) (lF : K.lookup fF = some ⟨ocF, odF, .func (PySem.W.fnOf "finer_kinds" "finer_kinds" (defArgs sFk) (defBody sFk) (defScope sFk) .none kVF dcF pmF anF cdF ctF), slF⟩) (cF : PySem.W.codeIn K cdF "finer_kinds" = true) (kF : PySem.W.keepIn K (.ref fF) = true)
    (aK : PySem.W.nsIn K mainGlobals "kinds_by_length" = some (some (.ref fK))) (lK : K.lookup fK = some ⟨ocK, odK, .func (PySem.W.fnOf "kinds_by_length" "kinds_by_length" (defArgs sKl) (defBody sKl) (defScope sKl) .none kVK dcK pmK anK cdK ctK), slK⟩) (cK : PySem.W.codeIn K cdK "kinds_by_length" = true) (kK : PySem.W.keepIn K (.ref fK) = true)
    (aX : PySem.W.nsIn K mainGlobals "parting_letter" = some (some (.ref fX))) (lX : K.lookup fX = some ⟨ocX, odX, .func (PySem.W.fnOf "parting_letter" "parting_letter" (defArgs sPl) (defBody sPl) (defScope sPl) .none kVX dcX pmX anX cdX ctX), slX⟩) (cX : PySem.W.codeIn K cdX "parting_letter" = true) (kX : PySem.W.keepIn K (.ref fX) = true)
    (aR : PySem.W.nsIn K mainGlobals "rooms_part" = some (some (.ref fR))) (lR : K.lookup fR = some ⟨ocR, odR, .func (PySem.W.fnOf "rooms_part" "rooms_part" (defArgs sRp) (defBody sRp) (defScope sRp) .none kVR dcR pmR anR cdR ctR), slR⟩) (cR : PySem.W.codeIn K cdR "rooms_part" = true) (kR : PySem.W.keepIn K (.ref fR) = true)
    (aV : PySem.W.nsIn K mainGlobals "moved_room" = some (some (.ref fV))) (lV : K.lookup fV = some ⟨ocV, odV, .func (PySem.W.fnOf "moved_room" "moved_room" (defArgs sMv) (defBody sMv) (defScope sMv) .none kVV dcV pmV anV cdV ctV), slV⟩) (cV : PySem.W.codeIn K cdV "moved_room" = true) (kV : PySem.W.keepIn K (.ref fV) = true)
    (aY : PySem.W.nsIn K mainGlobals "machines_part" = some (some (.ref fY))) (lY : K.lookup fY = some ⟨ocY, odY, .func (PySem.W.fnOf "machines_part" "machines_part" (defArgs sMp) (defBody sMp) (defScope sMp) .none kVY dcY pmY anY cdY ctY), slY⟩) (cY : PySem.W.codeIn K cdY "machines_part" = true) (kY : PySem.W.keepIn K (.ref fY) = true)
    (aL : PySem.W.nsIn K mainGlobals "least" = some (some (.ref fL))) (lL : K.lookup fL = some ⟨ocL, odL, .func (PySem.W.fnOf "least" "least" (defArgs sLs) (defBody sLs) (defScope sLs) .none kVL dcL pmL anL cdL ctL), slL⟩) (cL : PySem.W.codeIn K cdL "least" = true) (kL : PySem.W.keepIn K (.ref fL) = true)
    (aM : PySem.W.nsIn K mainGlobals "merged_room" = some (some (.ref fM))) (lM : K.lookup fM = some ⟨ocM, odM, .func (PySem.W.fnOf "merged_room" "merged_room" (defArgs sMr) (defBody sMr) (defScope sMr) .none kVM dcM pmM anM cdM ctM), slM⟩) (cM : PySem.W.codeIn K cdM "merged_room" = true) (kM : PySem.W.keepIn K (.ref fM) = true)
    (aT : PySem.W.nsIn K mainGlobals "joined_truth" = some (some (.ref fT))) (lT : K.lookup fT = some ⟨ocT, odT, .func (PySem.W.fnOf "joined_truth" "joined_truth" (defArgs sJt) (defBody sJt) (defScope sJt) .none kVT dcT pmT anT cdT ctT), slT⟩) (cT : PySem.W.codeIn K cdT "joined_truth" = true) (kT : PySem.W.keepIn K (.ref fT) = true)
    (aJ : PySem.W.nsIn K mainGlobals "joined" = some (some (.ref fJ))) (lJ : K.lookup fJ = some ⟨ocJ, odJ, .func (PySem.W.fnOf "joined" "joined" (defArgs sJo) (defBody sJo) (defScope sJo) .none kVJ dcJ pmJ anJ cdJ ctJ), slJ⟩) (cJ : PySem.W.codeIn K cdJ "joined" = true) (kJ : PySem.W.keepIn K (.ref fJ) = true)
    (aC : PySem.W.nsIn K mainGlobals "_law_cell_at" = some (some (.ref fC))) (lC : K.lookup fC = some ⟨ocC, odC, .func (PySem.W.fnOf "_law_cell_at" "_law_cell_at" (defArgs sCe) (defBody sCe) (defScope sCe) .none kVC dcC pmC anC cdC ctC), slC⟩) (cC : PySem.W.codeIn K cdC "_law_cell_at" = true) (kC : PySem.W.keepIn K (.ref fC) = true)
    (aH : PySem.W.nsIn K mainGlobals "_law_machine" = some (some (.ref fH))) (lH : K.lookup fH = some ⟨ocH, odH, .func (PySem.W.fnOf "_law_machine" "_law_machine" (defArgs sMa) (defBody sMa) (defScope sMa) .none kVH dcH pmH anH cdH ctH), slH⟩) (cH : PySem.W.codeIn K cdH "_law_machine" = true) (kH : PySem.W.keepIn K (.ref fH) = true)
    (aO : PySem.W.nsIn K mainGlobals "_law_other" = some (some (.ref fO))) (lO : K.lookup fO = some ⟨ocO, odO, .func (PySem.W.fnOf "_law_other" "_law_other" (defArgs sOt) (defBody sOt) (defScope sOt) .none kVO dcO pmO anO cdO ctO), slO⟩) (cO : PySem.W.codeIn K cdO "_law_other" = true) (kO : PySem.W.keepIn K (.ref fO) = true)
    (aU : PySem.W.nsIn K mainGlobals "_law_rules" = some (some (.ref fU))) (lU : K.lookup fU = some ⟨ocU, odU, .func (PySem.W.fnOf "_law_rules" "_law_rules" (defArgs sRu) (defBody sRu) (defScope sRu) .none kVU dcU pmU anU cdU ctU), slU⟩) (cU : PySem.W.codeIn K cdU "_law_rules" = true) (kU : PySem.W.keepIn K (.ref fU) = true)
    (aZ : PySem.W.nsIn K mainGlobals "law" = some (some (.ref fZ))) (lZ : K.lookup fZ = some ⟨ocZ, odZ, .func (PySem.W.fnOf "law" "law" (defArgs sLaw) (defBody sLaw) (defScope sLaw) .none kVZ dcZ pmZ anZ cdZ ctZ), slZ⟩) (cZ : PySem.W.codeIn K cdZ "law" = true) (kZ : PySem.W.keepIn K (.ref fZ) = true)
    (zlen : PySem.W.nsIn K mainGlobals "len" = some none)
    (zrange : PySem.W.nsIn K mainGlobals "range" = some none)
    (ztuple : PySem.W.nsIn K mainGlobals "tuple" = some none)
    (zisin : PySem.W.nsIn K mainGlobals "isinstance" = some none)
    (zint : PySem.W.nsIn K mainGlobals "int" = some none)
    (zbool : PySem.W.nsIn K mainGlobals "bool" = some none)
    (zzip : PySem.W.nsIn K mainGlobals "zip" = some none)
    (zset : PySem.W.nsIn K mainGlobals "set" = some none)
    (zrev : PySem.W.nsIn K mainGlobals "reversed" = some none)
    (zlist : PySem.W.nsIn K mainGlobals "list" = some none)
    : ∃ fd : FuncData, (∀ (s : Shared) (v : Value), BindsTo s fd ⟨[v], []⟩ [("_law_script", v)]) ∧ ∀ base : Heap, K.In base → base.Ns mainGlobals mg → FnOk l.prog w K mg base CX0 6 fa fd ["_law_script"] (spLaw K) := by
  have e := hfa.symm.trans (PySem.W.mg_of X G aZ)
  cases e
  have T : Txt mg := ⟨PySem.W.mg_none_of X G zlen, PySem.W.mg_none_of X G zrange, PySem.W.mg_none_of X G ztuple, PySem.W.mg_none_of X G zisin, PySem.W.mg_none_of X G zint, PySem.W.mg_none_of X G zbool, PySem.W.mg_none_of X G zzip, PySem.W.mg_none_of X G zset, PySem.W.mg_none_of X G zrev, PySem.W.mg_none_of X G zlist⟩
  have FF := fun_mk (st := sFk) lF cF kF
  have bF := FF.binds (ps := ["rooms", "kinds"]) fun _ _ _ _ _ _ us hl => match us, hl with | [_, _], _ => rfl
  have gF := PySem.W.mg_of X G aF
  have FK := fun_mk (st := sKl) lK cK kK
  have bK := FK.binds (ps := ["rooms"]) fun _ _ _ _ _ _ us hl => match us, hl with | [_], _ => rfl
  have gK := PySem.W.mg_of X G aK
  have FX := fun_mk (st := sPl) lX cX kX
  have bX := FX.binds (ps := ["one", "other", "kinds"]) fun _ _ _ _ _ _ us hl => match us, hl with | [_, _, _], _ => rfl
  have gX := PySem.W.mg_of X G aX
  have FR := fun_mk (st := sRp) lR cR kR
  have bR := FR.binds (ps := ["machine", "one", "other"]) fun _ _ _ _ _ _ us hl => match us, hl with | [_, _, _], _ => rfl
  have gR := PySem.W.mg_of X G aR
  have FV := fun_mk (st := sMv) lV cV kV
  have bV := FV.binds (ps := ["room", "far"]) fun _ _ _ _ _ _ us hl => match us, hl with | [_, _], _ => rfl
  have gV := PySem.W.mg_of X G aV
  have FY := fun_mk (st := sMp) lY cY kY
  have bY := FY.binds (ps := ["one", "other"]) fun _ _ _ _ _ _ us hl => match us, hl with | [_, _], _ => rfl
  have gY := PySem.W.mg_of X G aY
  have FL := fun_mk (st := sLs) lL cL kL
  have bL := FL.binds (ps := ["machine"]) fun _ _ _ _ _ _ us hl => match us, hl with | [_], _ => rfl
  have gL := PySem.W.mg_of X G aL
  have FM := fun_mk (st := sMr) lM cM kM
  have bM := FM.binds (ps := ["room", "kinds", "numbers"]) fun _ _ _ _ _ _ us hl => match us, hl with | [_, _, _], _ => rfl
  have gM := PySem.W.mg_of X G aM
  have FT := fun_mk (st := sJt) lT cT kT
  have bT := FT.binds (ps := ["word", "one", "other"]) fun _ _ _ _ _ _ us hl => match us, hl with | [_, _, _], _ => rfl
  have gT := PySem.W.mg_of X G aT
  have FJ := fun_mk (st := sJo) lJ cJ kJ
  have bJ := FJ.binds (ps := ["word", "one", "other"]) fun _ _ _ _ _ _ us hl => match us, hl with | [_, _, _], _ => rfl
  have gJ := PySem.W.mg_of X G aJ
  have FC := fun_mk (st := sCe) lC cC kC
  have bC := FC.binds (ps := ["_law_script", "_law_k"]) fun _ _ _ _ _ _ us hl => match us, hl with | [_, _], _ => rfl
  have gC := PySem.W.mg_of X G aC
  have FH := fun_mk (st := sMa) lH cH kH
  have bH := FH.binds (ps := ["_law_script", "_law_start", "_law_most"]) fun _ _ _ _ _ _ us hl => match us, hl with | [_, _, _], _ => rfl
  have gH := PySem.W.mg_of X G aH
  have FO := fun_mk (st := sOt) lO cO kO
  have bO := FO.binds (ps := ["_law_script", "_law_start", "_law_machine_here"]) fun _ _ _ _ _ _ us hl => match us, hl with | [_, _, _], _ => rfl
  have gO := PySem.W.mg_of X G aO
  have FU := fun_mk (st := sRu) lU cU kU
  have bU := FU.binds (ps := ["_law_one", "_law_other_here", "_law_third"]) fun _ _ _ _ _ _ us hl => match us, hl with | [_, _, _], _ => rfl
  have gU := PySem.W.mg_of X G aU
  have FZ := fun_mk (st := sLaw) lZ cZ kZ
  exact ⟨PySem.W.fnOf "law" "law" (defArgs sLaw) (defBody sLaw) (defScope sLaw) .none kVZ dcZ pmZ anZ cdZ ctZ, fun s v => .of_eq rfl, fun base _ _ => ok_law FZ T FF bF gF FK bK gK FX bX gX FR bR gR FV bV gV FY bY gY FL bL gL FM bM gM FT bT gT FJ bJ gJ FC bC gC FH bH gH FO bO gO FU bU gU⟩
theorem walk {l : PySem.W.OpenLaw} {q : Program} {loose : List Str} {XP : (Str → Option Value) → Heap → Prop} {YP : World → Heap → Prop} {d : DefRec} {K : Params → PySem.W.Frag} (hn : l.most = some 63) (hdf : d.params.defaults = [])
    (hY : ∀ (w : World) (h : Heap), YP w h → (K w.params).In h)
    (F : ∀ (w : World) (mg : Str → Option Value) (fa : Addr) (h : Heap), (K w.params).In h → h.Ns mainGlobals mg → mg d.name = some (.ref fa) →
      ∃ fd : FuncData, (∀ (s : Shared) (u : Value), BindsTo s fd ⟨[u], []⟩ [("_law_script", u)]) ∧ ∀ base : Heap, (K w.params).In base → base.Ns mainGlobals mg → FnOk l.prog w (K w.params) mg base CX0 6 fa fd ["_law_script"] (spLaw (K w.params))) :
    PySem.W.WalkO q loose XP YP l.row.toRowW d [] (fun f vs => PySem.call f vs) :=
  L2.walk_of (n := 63) (k := 6) (x := "_law_script") (CX := fun _ => CX0) (sp := fun w => spLaw (K w.params)) hn (by decide) hdf ⟨rfl, by decide, by decide⟩ hY F (fun _ _ a ns hl _ hS => ⟨a, ns, rfl, hS, hl, fun _ => rfl⟩) fun _ _ _ _ _ z => z
end K26
open PySem PySem.W PyProof.Rows
set_option maxRecDepth 100000 in
set_option maxHeartbeats 0 in
theorem PySem.Challenge.cw_logloom_k26_whole_equal_machines_holds : PySem.Challenge.rw_logloom_k26_whole_equal_machines.Holds := by
  w_on; o_law; k_head; (case hw => w_witness2)
  k_fill
  refine K26.walk (l := PySem.Challenge.rw_logloom_k26_whole_equal_machines) rfl rfl (fun w h Y => PySem.W.kIn_of Y) ?F
  case F =>
    intro w mg fa h KX G hmg
    refine' K26.all_mk KX G hmg ?aF ?lF ?cF ?kF ?aK ?lK ?cK ?kK ?aX ?lX ?cX ?kX ?aR ?lR ?cR ?kR ?aV ?lV ?cV ?kV ?aY ?lY ?cY ?kY ?aL ?lL ?cL ?kL ?aM ?lM ?cM ?kM ?aT ?lT ?cT ?kT ?aJ ?lJ ?cJ ?kJ ?aC ?lC ?cC ?kC ?aH ?lH ?cH ?kH ?aO ?lO ?cO ?kO ?aU ?lU ?cU ?kU ?aZ ?lZ ?cZ ?kZ ?zlen ?zrange ?ztuple ?zisin ?zint ?zbool ?zzip ?zset ?zrev ?zlist
    (case aF => k_is)
    (case lF => k_is)
    (case cF => k_is)
    (case kF => k_is)
    (case aK => k_is)
    (case lK => k_is)
    (case cK => k_is)
    (case kK => k_is)
    (case aX => k_is)
    (case lX => k_is)
    (case cX => k_is)
    (case kX => k_is)
    (case aR => k_is)
    (case lR => k_is)
    (case cR => k_is)
    (case kR => k_is)
    (case aV => k_is)
    (case lV => k_is)
    (case cV => k_is)
    (case kV => k_is)
    (case aY => k_is)
    (case lY => k_is)
    (case cY => k_is)
    (case kY => k_is)
    (case aL => k_is)
    (case lL => k_is)
    (case cL => k_is)
    (case kL => k_is)
    (case aM => k_is)
    (case lM => k_is)
    (case cM => k_is)
    (case kM => k_is)
    (case aT => k_is)
    (case lT => k_is)
    (case cT => k_is)
    (case kT => k_is)
    (case aJ => k_is)
    (case lJ => k_is)
    (case cJ => k_is)
    (case kJ => k_is)
    (case aC => k_is)
    (case lC => k_is)
    (case cC => k_is)
    (case kC => k_is)
    (case aH => k_is)
    (case lH => k_is)
    (case cH => k_is)
    (case kH => k_is)
    (case aO => k_is)
    (case lO => k_is)
    (case cO => k_is)
    (case kO => k_is)
    (case aU => k_is)
    (case lU => k_is)
    (case cU => k_is)
    (case kU => k_is)
    (case aZ => k_is)
    (case lZ => k_is)
    (case cZ => k_is)
    (case kZ => k_is)
    (case zlen => k_is)
    (case zrange => k_is)
    (case ztuple => k_is)
    (case zisin => k_is)
    (case zint => k_is)
    (case zbool => k_is)
    (case zzip => k_is)
    (case zset => k_is)
    (case zrev => k_is)
    (case zlist => k_is)

