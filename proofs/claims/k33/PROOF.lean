import PyProof.Rows.All
import HandS.ForMost
import HandS.Lambda
import KE.KDictKeyed
import HandS.Star
import HandS.TupAny
import HandS.IsInst
import KE.GoesEnum
import KE.GoesMore
import HandS.Property
import KE.SortKeyHeap
import HandS.TupSets
import HandS.Codes
import HandS.Strs
import KE.KSortKey
import PyProof.Rows.CallKwBuiltin
import HandS.Conv
import HandS.HeadHook4
import HandS.HeadWalk
import HandS.Head0
import HandS.Head1
import HandS.Head2
import HandS.HeadEnd
import KE.KStateDown
import HandS.Style
import HandS.TupLen
import HandS.DictEq
import HandS.Exc
import HandS.DictComp
import HandS.Gcd
import PySem.Challenge.RW_shutroads_k33_whole_walkers
section
set_option Elab.async false
set_option linter.all false
set_option maxRecDepth 100000
set_option maxHeartbeats 4000000
set_option autoImplicit false
namespace Dt
open PySem PySem.Spec PyProof.Rows L2

/-! ### data, cells, results -/
inductive D where
  | non | bl (b : Bool) | int (i : Int) | str (x : Str)
  | tup (xs : List D) | lst (xs : List D)
  | scr (ns : List Int)
  | dic (b : Bool) (ks vs : List D)
  | obj (c : Nat) (ds : List D)
  | fn (n : Nat) (ds : List D)

inductive Cell where
  | un | fro (d : D) | own (d : D) | brw (d : D)
abbrev Env := List Cell
/-- an expression's result: frozen data, a fresh object of ours, what the slot i holds -/
inductive RV where
  | fro (d : D) | own (d : D) | bor (i : Nat)
inductive Res (α : Type) where
  | ok (a : α) | err (c : Nat) (d : D) | bad
def Res.bind {α β : Type} (x : Res α) (f : α → Res β) : Res β := match x with
  | .ok a => f a
  | .err c d => .err c d
  | .bad => .bad
@[simp] theorem Res.bind_ok {α β : Type} (a : α) (f : α → Res β) : Res.bind (.ok a) f = f a := rfl
@[simp] theorem Res.bind_bad {α β : Type} (f : α → Res β) : Res.bind .bad f = .bad := rfl
theorem Res.bind_eq {α β : Type} {x : Res α} {f : α → Res β} {b : β} (h : Res.bind x f = .ok b) : ∃ a, x = .ok a ∧ f a = .ok b := by
  cases x with
  | ok a => exact ⟨a, rfl, h⟩
  | err c d => cases h
  | bad => cases h
def Res.of {α : Type} : Option α → Res α
  | some a => .ok a
  | none => .bad
@[simp] theorem Res.of_some {α : Type} (a : α) : Res.of (some a) = .ok a := rfl
theorem Res.of_eq {α : Type} {x : Option α} {a : α} (h : Res.of x = .ok a) : x = some a := by
  cases x with
  | none => cases h
  | some b => cases h; rfl
def Res.need (b : Bool) : Res Unit := if b then .ok () else .bad
@[simp] theorem Res.need_true : Res.need true = .ok () := rfl
theorem Res.need_eq {b : Bool} {u : Unit} (h : Res.need b = .ok u) : b = true := by
  cases b with
  | true => rfl
  | false => cases h

abbrev EF := Env → Res (RV × Env)
abbrev AF := Env → Res (List RV × Env)
inductive Fl where
  | nx | ret (r : RV) | bk | ct
abbrev SF := Env → Res (Fl × Env)

/-- classes: their addresses, their fields in order; the tables of code objects -/
structure Tab where
  ca : Nat → Addr
  fl : Nat → List Str
  tb : List (Addr × Str)
/-- no table of code objects is in it -/
def NT (G : Hp) : Prop := ∀ (a : Addr) (ps : Array Value), G a ≠ some (.tbl ps)

/-- a dict's key as data -/
def keyD : Key → D
  | .inl i => .int i
  | .inr x => .str x
/-! ### dicts with tuples as keys: numbers, None, and tuples of them, nested -/
mutual
def nkFree : NestedKey → Bool
  | .none => true
  | .num _ => true
  | .text _ => false
  | .tup ks => nkFrees ks
def nkFrees : List NestedKey → Bool
  | [] => true
  | k :: ks => nkFree k && nkFrees ks
end
mutual
theorem hash_free (w w' : World) : ∀ {k : NestedKey}, nkFree k = true → k.hash w = k.hash w'
  | .none, _ => by rw [NestedKey.hash, NestedKey.hash]
  | .num i, _ => by rw [NestedKey.hash, NestedKey.hash]
  | .text _, h => by cases h
  | .tup ks, h => by
    rw [nkFree] at h
    rw [NestedKey.hash, NestedKey.hash, hashes_free w w' h]
theorem hashes_free (w w' : World) : ∀ {ks : List NestedKey}, nkFrees ks = true → NestedKey.hashes w ks = NestedKey.hashes w' ks
  | [], _ => by rw [NestedKey.hashes, NestedKey.hashes]
  | k :: ks, h => by
    rw [nkFrees, Bool.and_eq_true] at h
    rw [NestedKey.hashes, NestedKey.hashes, hash_free w w' h.1, hashes_free w w' h.2]
end
mutual
/-- data as a key -/
def dkey : D → Option NestedKey
  | .non => some .none
  | .bl b => some (.num (if b = true then 1 else 0))
  | .int i => some (.num i)
  | .str _ => none
  | .tup xs => (dkeys xs).map .tup
  | .lst _ => none
  | .scr _ => none
  | .dic _ _ _ => none
  | .obj _ _ => none
  | .fn _ _ => none
def dkeys : List D → Option (List NestedKey)
  | [] => some []
  | d :: ds => match dkey d, dkeys ds with
    | some k, some ks => some (k :: ks)
    | _, _ => none
end
mutual
theorem dkey_free : ∀ {d : D} {k : NestedKey}, dkey d = some k → nkFree k = true
  | .non, _, h => by rw [dkey] at h; cases h; rfl
  | .bl _, _, h => by rw [dkey] at h; cases h; rfl
  | .int _, _, h => by rw [dkey] at h; cases h; rfl
  | .str _, _, h => by rw [dkey] at h; cases h
  | .tup xs, _, h => by
    rw [dkey] at h
    obtain ⟨ks, e, rfl⟩ := Option.map_eq_some_iff.mp h
    rw [nkFree]; exact dkeys_free e
  | .lst _, _, h => by rw [dkey] at h; cases h
  | .scr _, _, h => by rw [dkey] at h; cases h
  | .dic _ _ _, _, h => by rw [dkey] at h; cases h
  | .obj _ _, _, h => by rw [dkey] at h; cases h
  | .fn _ _, _, h => by rw [dkey] at h; cases h
theorem dkeys_free : ∀ {ds : List D} {ks : List NestedKey}, dkeys ds = some ks → nkFrees ks = true
  | [], _, h => by rw [dkeys] at h; cases h; rfl
  | d :: ds, _, h => by
    rw [dkeys] at h
    split at h
    · rename_i k ks e1 e2
      cases h
      rw [nkFrees, dkey_free e1, dkeys_free e2]; rfl
    · cases h
end
/-- the dict at a: its entries, the keys' own tuples at their addresses -/
def DicAt (a : Addr) (kvs : List (NestedKey × Addr × V)) (h : Heap) : Prop := ∃ (o : Obj) (es : Array DictEntry) (ep : Nat) (xs : List (NestedKey × Addr × Value)), h.get? a = some o ∧ o.ExactDict ∧ o.data = .dict es ep ∧
  (∀ w : World, es.toList = xs.map fun x => ⟨x.1.hash w, .ref x.2.1, x.2.2⟩) ∧ Paired (fun p q => p.1 = q.1 ∧ p.2.1 = q.2.1 ∧ RelV p.2.2 q.2.2) kvs xs
def DicO (a : Addr) (kvs : List (NestedKey × Addr × V)) : HO := .ext (DicAt a kvs)
/-- a dict as it lies at a, its keys as values and as data, its values -/
inductive DicH : Bool → Addr → HO → List V → List D → List V → Prop
  | k (a : Addr) (kvs : List (Key × V)) : DicH false a (.dK kvs) (kvs.map fun p => kV p.1) (kvs.map fun p => keyD p.1) (kvs.map (·.2))
  | n (a : Addr) (kvs : List (NestedKey × Addr × V)) (ks : List D) : ks.map dkey = kvs.map (fun p => some p.1) → (∀ p ∈ kvs, p.1.depth ≤ 8) → (kvs.map (·.1)).Nodup → kvs.length ≤ sizeLine → (a == sysModules) = false →
    DicH true a (DicO a kvs) (kvs.map fun p => V.ref p.2.1) ks (kvs.map (·.2.2))
theorem heap_with (a : Addr) (o : Obj) (h : o.data ≠ .freed) : ∃ g : Heap, g.get? a = some o := by
  refine ⟨{ objs := (Array.replicate a default).push o }, ?_⟩
  have e : ((Array.replicate a (default : Obj)).push o)[a]? = some o := by
    have := Array.getElem?_push_size (xs := Array.replicate a (default : Obj)) (x := o)
    rwa [Array.size_replicate] at this
  unfold Heap.get?
  show (match ((Array.replicate a (default : Obj)).push o)[a]? with
    | some ⟨_, _, .freed, _⟩ => none
    | u => u) = some o
  rw [e]
  obtain ⟨c, d, dt, sl⟩ := o
  cases dt <;> first | rfl | exact absurd rfl h
theorem DicH.notab {b : Bool} {a : Addr} {o : HO} {ks : List V} {ds : List D} {ws : List V} (h : DicH b a o ks ds ws) (ps : Array Value) : o ≠ .tbl ps := by cases h <;> (intro z; cases z)
theorem DicH.noext {b : Bool} {a : Addr} {o : HO} {ks : List V} {ds : List D} {ws : List V} (h : DicH b a o ks ds ws) (q : Str) : o ≠ LamX.CodeO a q := by
  cases h with
  | k _ _ => intro z; cases z
  | n _ kvs _ _ _ _ _ =>
    intro z
    have e : DicAt a kvs = _ := HO.ext.inj z
    obtain ⟨g, hg⟩ := heap_with a { cls := .none, data := .fields #[.none, .str q 0] } (fun z => nomatch z)
    have c : DicAt a kvs g := by
      rw [e]
      exact ⟨_, _, 0, hg, rfl, rfl⟩
    obtain ⟨o, es, ep, _, h1, _, h2, _⟩ := c
    rw [hg] at h1
    cases h1
    cases h2
section
variable (K : PySem.W.Frag) (T : Tab)
mutual
inductive DR (S : Hp) : V → D → Prop
  | non : DR S .non .non
  | bl (b : Bool) : DR S (.bl b) (.bl b)
  | int (i : Int) : DR S (.int i) (.int i)
  | str (x : Str) : DR S (.str x) (.str x)
  | tup {a : Addr} {vs : List V} {ds : List D} : SqT K S a vs → DRs S vs ds → DR S (.ref a) (.tup ds)
  | lst {a : Addr} {vs : List V} {ds : List D} : S a = some (.lst vs) → DRs S vs ds → DR S (.ref a) (.lst ds)
  | scr {a : Addr} {ns : List Int} : SqL K S a (ns.map V.int) → DR S (.ref a) (.scr ns)
  | obj {a dx : Addr} {c : Nat} {fs : List (Str × V)} {ds : List D} : S a = some (.ins (T.ca c) dx fs) → fs.map (·.1) = (T.fl c).take ds.length → DRs S (fs.map (·.2)) ds → DR S (.ref a) (.obj c ds)
  | dic {a : Addr} {b : Bool} {o : HO} {kw : List V} {ks : List D} {ws : List V} {vs : List D} : S a = some o → DicH b a o kw ks ws → DRs S kw ks → DRs S ws vs → DR S (.ref a) (.dic b ks vs)
inductive DRs (S : Hp) : List V → List D → Prop
  | nil : DRs S [] []
  | cons {v : V} {vs : List V} {d : D} {ds : List D} : DR S v d → DRs S vs ds → DRs S (v :: vs) (d :: ds)
end
end

theorem sqT_same {K : PySem.W.Frag} {S S' : Hp} {a : Addr} {xs : List V} (e : Same S S') (h : SqT K S a xs) : SqT K S' a xs := by
  rcases h with (h | ⟨o, h⟩) | h
  · exact .inl (.inl (e _ _ h))
  · exact .inl (.inr ⟨o, e _ _ h⟩)
  · exact .inr h

section
variable {K : PySem.W.Frag} {T : Tab} {S S' : Hp}
mutual
theorem DR.mono (e : Same S S') : ∀ {v : V} {d : D}, DR K T S v d → DR K T S' v d
  | _, _, .non => .non
  | _, _, .bl b => .bl b
  | _, _, .int i => .int i
  | _, _, .str x => .str x
  | _, _, .tup h r => .tup (sqT_same e h) (DRs.mono e r)
  | _, _, .lst h r => .lst (e _ _ h) (DRs.mono e r)
  | _, _, .scr h => .scr (e.seq h)
  | _, _, .obj h n r => .obj (e _ _ h) n (DRs.mono e r)
  | _, _, .dic h n q r => .dic (e _ _ h) n (DRs.mono e q) (DRs.mono e r)
theorem DRs.mono (e : Same S S') : ∀ {vs : List V} {ds : List D}, DRs K T S vs ds → DRs K T S' vs ds
  | _, _, .nil => .nil
  | _, _, .cons h r => .cons (DR.mono e h) (DRs.mono e r)
end
theorem DRs.length : ∀ {vs : List V} {ds : List D}, DRs K T S vs ds → vs.length = ds.length
  | _, _, .nil => rfl
  | _, _, .cons _ r => congrArg (· + 1) (DRs.length r)
theorem DRs.append : ∀ {vs ws : List V} {ds es : List D}, DRs K T S vs ds → DRs K T S ws es → DRs K T S (vs ++ ws) (ds ++ es)
  | _, _, _, _, .nil, r => r
  | _, _, _, _, .cons h q, r => .cons h (DRs.append q r)
theorem DRs.get : ∀ {vs : List V} {ds : List D} {i : Nat} {d : D}, DRs K T S vs ds → ds[i]? = some d → ∃ v, vs[i]? = some v ∧ DR K T S v d
  | _, _, _, _, .nil, e => by simp at e
  | _, _, 0, _, .cons h _, e => by simp at e; subst e; exact ⟨_, rfl, h⟩
  | _, _, i + 1, _, .cons _ r, e => by
    obtain ⟨v, h1, h2⟩ := DRs.get (i := i) r (by simpa using e)
    exact ⟨v, by simpa using h1, h2⟩
theorem DRs.get' : ∀ {vs : List V} {ds : List D} {i : Nat} {v : V}, DRs K T S vs ds → vs[i]? = some v → ∃ d, ds[i]? = some d ∧ DR K T S v d
  | _, _, _, _, .nil, e => by simp at e
  | _, _, 0, _, .cons h _, e => by simp at e; subst e; exact ⟨_, rfl, h⟩
  | _, _, i + 1, _, .cons _ r, e => by
    obtain ⟨v, h1, h2⟩ := DRs.get' (i := i) r (by simpa using e)
    exact ⟨v, by simpa using h1, h2⟩
theorem DRs.take : ∀ {vs : List V} {ds : List D} (n : Nat), DRs K T S vs ds → DRs K T S (vs.take n) (ds.take n)
  | _, _, 0, _ => .nil
  | _, _, _ + 1, .nil => .nil
  | _, _, n + 1, .cons h r => .cons h (DRs.take n r)
theorem DRs.drop : ∀ {vs : List V} {ds : List D} (n : Nat), DRs K T S vs ds → DRs K T S (vs.drop n) (ds.drop n)
  | _, _, 0, r => r
  | _, _, _ + 1, .nil => .nil
  | _, _, n + 1, .cons _ r => DRs.drop n r
theorem DRs.set : ∀ {vs : List V} {ds : List D} {v : V} {d : D} (i : Nat), DRs K T S vs ds → DR K T S v d → DRs K T S (vs.set i v) (ds.set i d)
  | _, _, _, _, _, .nil, _ => .nil
  | _, _, _, _, 0, .cons _ r, q => .cons q r
  | _, _, _, _, i + 1, .cons h r, q => .cons h (DRs.set i r q)
theorem drs_ints : ∀ ns : List Int, DRs K T S (ns.map V.int) (ns.map D.int)
  | [] => .nil
  | n :: ns => .cons (.int n) (drs_ints ns)
theorem DRs.one {v : V} {d : D} (h : DR K T S v d) : DRs K T S [v] [d] := .cons h .nil
end

/-! ### what is ours, the slots -/
section
variable (K : PySem.W.Frag) (T : Tab)
/-- the object at a, its children frozen -/
def Node (S H : Hp) (a : Addr) : D → Prop
  | .lst ds => ∃ vs, H a = some (.lst vs) ∧ DRs K T S vs ds
  | .obj c ds => ∃ dx fs, H a = some (.ins (T.ca c) dx fs) ∧ fs.map (·.1) = (T.fl c).take ds.length ∧ DRs K T S (fs.map (·.2)) ds
  | .dic b ks vs => ∃ o kw ws, H a = some o ∧ DicH b a o kw ks ws ∧ DRs K T S kw ks ∧ DRs K T S ws vs
  | _ => False
def Own (F S H : Hp) (a : Addr) (d : D) : Prop := S a = none ∧ F a = none ∧ Node K T S H a d
def Cell.mut : Cell → Bool
  | .own _ => true
  | .brw _ => true
  | _ => false
def SlotR (π : L2.St) (F S H : Hp) (i : Nat) (v : Option (Option V)) : Cell → Prop
  | .un => True
  | .fro d => ∃ x, v = some (some x) ∧ DR K T S x d
  | .own d => ∃ a, v = some (some (.ref a)) ∧ Own K T F S H a d
  | .brw d => ∃ a, v = some (some (.ref a)) ∧ π[i]? = some (some (.ref a)) ∧ Own K T F S H a d
structure Rel (π : L2.St) (F S : Hp) (ρ : Env) (σ : L2.St) (H : Hp) : Prop where
  sS : Same S H
  sF : Same F H
  dj : ∀ a o, F a = some o → S a = none
  nS : NT S
  nF : NT F
  tb : LamX.Tabs T.tb H
  len : ρ.length = σ.length
  sl : ∀ (i : Nat) (c : Cell), ρ[i]? = some c → SlotR K T π F S H i σ[i]? c
  ds : ∀ (i j : Nat) (a : Addr) (ci cj : Cell), ρ[i]? = some ci → ρ[j]? = some cj → ci.mut = true → cj.mut = true → σ[i]? = some (some (V.ref a)) → σ[j]? = some (some (V.ref a)) → i = j
/-- no slot of ours holds a -/
def Apart (ρ : Env) (σ : L2.St) (a : Addr) : Prop := ∀ (i : Nat) (c : Cell), ρ[i]? = some c → c.mut = true → σ[i]? ≠ some (some (V.ref a))
def RVR (F S H : Hp) (ρ : Env) (σ : L2.St) (v : V) : RV → Prop
  | .fro d => DR K T S v d
  | .own d => ∃ a, v = .ref a ∧ Own K T F S H a d ∧ Apart ρ σ a
  | .bor i => σ[i]? = some (some v)
/-- what may be read now -/
def RD (S H : Hp) (v : V) (d : D) : Prop := DR K T S v d ∨ ∃ a, v = .ref a ∧ Node K T S H a d
end
def RV.hold : RV → RV
  | .own d => .fro d
  | r => r
def deref (ρ : Env) : RV → Option D
  | .fro d => some d
  | .own d => some d
  | .bor i => match ρ[i]? with
    | some (.fro d) => some d
    | some (.own d) => some d
    | some (.brw d) => some d
    | _ => none
def Held (K : PySem.W.Frag) (T : Tab) (S : Hp) (σ : L2.St) (v : V) : RV → Prop
  | .fro d => DR K T S v d
  | .own _ => False
  | .bor i => σ[i]? = some (some v)
inductive HeldAll (K : PySem.W.Frag) (T : Tab) (S : Hp) (σ : L2.St) : List V → List RV → Prop
  | nil : HeldAll K T S σ [] []
  | cons {v : V} {vs : List V} {r : RV} {rs : List RV} : Held K T S σ v r → HeldAll K T S σ vs rs → HeldAll K T S σ (v :: vs) (r :: rs)

section
variable {K : PySem.W.Frag} {T : Tab} {π σ : L2.St} {F S S' H H' : Hp} {ρ ρ' : Env} {a : Addr} {v : V} {d : D} {r : RV}
theorem Node.mono (e : Same S S') (h : Node K T S H a d) : Node K T S' H a d := by
  cases d <;> first | exact h.elim | skip
  · obtain ⟨vs, h1, h2⟩ := h; exact ⟨vs, h1, h2.mono e⟩
  · obtain ⟨o, kw, ws, h1, h2, h3, h4⟩ := h; exact ⟨o, kw, ws, h1, h2, h3.mono e, h4.mono e⟩
  · obtain ⟨dx, fs, h1, h2, h3⟩ := h; exact ⟨dx, fs, h1, h2, h3.mono e⟩
theorem Node.heap (e : H' a = H a) (h : Node K T S H a d) : Node K T S H' a d := by
  cases d <;> first | exact h.elim | skip
  · obtain ⟨vs, h1, h2⟩ := h; exact ⟨vs, e.trans h1, h2⟩
  · obtain ⟨o, kw, ws, h1, h2, h3⟩ := h; exact ⟨o, kw, ws, e.trans h1, h2, h3⟩
  · obtain ⟨dx, fs, h1, h2, h3⟩ := h; exact ⟨dx, fs, e.trans h1, h2, h3⟩
theorem Node.there (h : Node K T S H a d) : ∃ o, H a = some o := by
  cases d <;> first | exact h.elim | skip
  · obtain ⟨vs, h1, h2⟩ := h; exact ⟨_, h1⟩
  · obtain ⟨o, kw, ws, h1, h2, h3⟩ := h; exact ⟨_, h1⟩
  · obtain ⟨dx, fs, h1, h2, h3⟩ := h; exact ⟨_, h1⟩
/-- what stands at a, frozen -/
theorem Node.froze (h : Node K T S H a d) (e : Same S S') (ha : S' a = H a) : DR K T S' (.ref a) d := by
  cases d <;> first | exact h.elim | skip
  · obtain ⟨vs, h1, h2⟩ := h; exact .lst (ha.trans h1) (h2.mono e)
  · obtain ⟨o, kw, ws, h1, h2, h3, h4⟩ := h; exact .dic (ha.trans h1) h2 (h3.mono e) (h4.mono e)
  · obtain ⟨dx, fs, h1, h2, h3⟩ := h; exact .obj (ha.trans h1) h2 (h3.mono e)
theorem Own.mono (e : Same S S') (n : S' a = none) (h : Own K T F S H a d) : Own K T F S' H a d := ⟨n, h.2.1, h.2.2.mono e⟩
theorem Own.heap (e : H' a = H a) (h : Own K T F S H a d) : Own K T F S H' a d := ⟨h.1, h.2.1, h.2.2.heap e⟩
theorem NT.upd {o : HO} (h : NT F) (n : ∀ ps, o ≠ .tbl ps) : NT (L2.upd F a o) := fun b ps e => by
  by_cases hb : b = a
  · subst hb; rw [upd_same] at e; exact n ps (Option.some.inj e)
  · rw [upd_ne hb] at e; exact h b ps e
theorem Node.notab (h : Node K T S H a d) (ps : Array Value) : H a ≠ some (.tbl ps) := by
  cases d <;> first | exact h.elim | skip
  · obtain ⟨vs, h1, h2⟩ := h; rw [h1]; intro z; cases z
  · obtain ⟨o, kw, ws, h1, h2, h3⟩ := h; rw [h1]; intro z; cases z; exact h2.notab _ rfl
  · obtain ⟨dx, fs, h1, h2, h3⟩ := h; rw [h1]; intro z; cases z
/-- the tables stand where nothing but lists and instances is changed -/
theorem tabs_keep {L : List (Addr × Str)} (t : LamX.Tabs L H) (h : Node K T S H a d) (e : ∀ b, b ≠ a → H' b = H b) : LamX.Tabs L H' := fun p hp => by
  obtain ⟨ps, h1, h2, h3⟩ := t p hp
  refine ⟨ps, (e _ fun z => h.notab ps (by rw [← z]; exact h1)).trans h1, h2, fun pos cv hc => ?_⟩
  obtain ⟨c, e1, e2⟩ := h3 pos cv hc
  refine ⟨c, e1, (e _ fun z => ?_).trans e2⟩
  rw [z] at e2
  cases d <;> first | exact h.elim | skip
  · obtain ⟨vs, h1, _⟩ := h; rw [h1] at e2; cases e2
  · obtain ⟨o, kw, ws, h1, h2, _⟩ := h; rw [h1] at e2; subst z; exact h2.noext _ (Option.some.inj e2)
  · obtain ⟨dx, fs, h1, _⟩ := h; rw [h1] at e2; cases e2
theorem tabs_new {L : List (Addr × Str)} {o : HO} (t : LamX.Tabs L H) (h : H a = none) : LamX.Tabs L (L2.upd H a o) := t.ext fun b x e => by rw [upd_ne (ne_of_none e h)]; exact e

theorem same_upd {o : HO} (h : H a = none) : Same H (upd H a o) := fun b x e => by
  rw [upd_ne (ne_of_none e h)]; exact e
theorem same_upd2 {o : HO} (e : Same S H) : Same (upd S a o) (upd H a o) := fun b x h => by
  by_cases hb : b = a
  · subst hb; rw [upd_same] at h ⊢; exact h
  · rw [upd_ne hb] at h ⊢; exact e _ _ h
theorem same_none (e : Same S H) (h : H a = none) : S a = none := e.free h

/-- the relation under more frozen objects and another heap, our own objects being as they were -/
theorem Rel.step (R : Rel K T π F S ρ σ H) (e : Same S S') (sS : Same S' H') (sF : Same F H') (dj : ∀ a o, F a = some o → S' a = none) (nS : NT S') (tb : LamX.Tabs T.tb H')
    (own : ∀ (i : Nat) (c : Cell) (a : Addr), ρ[i]? = some c → c.mut = true → σ[i]? = some (some (V.ref a)) → H' a = H a ∧ S' a = none) : Rel K T π F S' ρ σ H' := by
  refine ⟨sS, sF, dj, nS, R.nF, tb, R.len, fun i c hc => ?_, R.ds⟩
  have q := R.sl i c hc
  cases c with
  | un => trivial
  | fro d => obtain ⟨x, h1, h2⟩ := q; exact ⟨x, h1, h2.mono e⟩
  | own d =>
    obtain ⟨a, h1, h2⟩ := q
    obtain ⟨e1, e2⟩ := own i _ a hc rfl h1
    exact ⟨a, h1, (h2.mono e e2).heap e1⟩
  | brw d =>
    obtain ⟨a, h1, h0, h2⟩ := q
    obtain ⟨e1, e2⟩ := own i _ a hc rfl h1
    exact ⟨a, h1, h0, (h2.mono e e2).heap e1⟩
theorem Rel.ownAt (R : Rel K T π F S ρ σ H) {i : Nat} {c : Cell} (hc : ρ[i]? = some c) (m : c.mut = true) (e : σ[i]? = some (some (V.ref a))) : S a = none ∧ F a = none ∧ ∃ o, H a = some o := by
  have q := R.sl i c hc
  cases c with
  | un => cases m
  | fro d => cases m
  | own d =>
    obtain ⟨b, h1, h2⟩ := q
    rw [h1] at e; cases e
    exact ⟨h2.1, h2.2.1, h2.2.2.there⟩
  | brw d =>
    obtain ⟨b, h1, _, h2⟩ := q
    rw [h1] at e; cases e
    exact ⟨h2.1, h2.2.1, h2.2.2.there⟩
theorem Rel.apart (R : Rel K T π F S ρ σ H) (h : H a = none) : Apart ρ σ a := fun i c hc m e => by
  obtain ⟨_, _, o, q⟩ := R.ownAt hc m e
  rw [h] at q; cases q
/-- a new object, not frozen -/
theorem Rel.alloc (R : Rel K T π F S ρ σ H) {o : HO} (h : H a = none) : Rel K T π F S ρ σ (upd H a o) :=
  R.step (Same.refl S) (R.sS.trans (same_upd h)) (R.sF.trans (same_upd h)) R.dj R.nS (tabs_new R.tb h) fun i c b hc m e => by
    obtain ⟨h1, _, o', h2⟩ := R.ownAt hc m e
    exact ⟨upd_ne (ne_of_none h2 h), h1⟩
/-- a new object, frozen -/
theorem Rel.allocF (R : Rel K T π F S ρ σ H) {o : HO} (h : H a = none) (n : ∀ ps, o ≠ .tbl ps) : Rel K T π F (upd S a o) ρ σ (upd H a o) :=
  R.step (same_upd (same_none R.sS h)) (same_upd2 R.sS) (R.sF.trans (same_upd h)) (fun b x e => by
    rw [upd_ne (ne_of_none (R.sF _ _ e) h)]; exact R.dj _ _ e) (R.nS.upd n) (tabs_new R.tb h) fun i c b hc m e => by
    obtain ⟨h1, _, o', h2⟩ := R.ownAt hc m e
    have nb := ne_of_none h2 h
    exact ⟨upd_ne nb, by rw [upd_ne nb]; exact h1⟩
/-- S with what stands at a -/
def froz (S H : Hp) (a : Addr) : Hp := fun b => if b = a then H a else S b
theorem froz_at : froz S H a a = H a := by unfold froz; rw [if_pos rfl]
theorem froz_ne {b : Addr} (h : b ≠ a) : froz S H a b = S b := by unfold froz; rw [if_neg h]
theorem same_froz (h : S a = none) : Same S (froz S H a) := fun b o e => by rw [froz_ne (ne_of_none e h)]; exact e
theorem froz_same (e : Same S H) : Same (froz S H a) H := fun b o h => by
  by_cases hb : b = a
  · subst hb; rw [froz_at] at h; exact h
  · rw [froz_ne hb] at h; exact e _ _ h
theorem NT.froz (h : NT S) (n : Node K T S' H a d) : NT (Dt.froz S H a) := fun b ps e => by
  by_cases hb : b = a
  · subst hb; rw [froz_at] at e; exact n.notab ps e
  · rw [froz_ne hb] at e; exact h b ps e
theorem Rel.freeze (R : Rel K T π F S ρ σ H) (o : Own K T F S H a d) (ap : Apart ρ σ a) : Rel K T π F (froz S H a) ρ σ H ∧ DR K T (froz S H a) (.ref a) d :=
  ⟨R.step (same_froz o.1) (froz_same R.sS) R.sF (fun b x e => by
    by_cases hb : b = a
    · subst hb; rw [o.2.1] at e; cases e
    · rw [froz_ne hb]; exact R.dj _ _ e) (R.nS.froz o.2.2) R.tb fun i c b hc m e => ⟨rfl, by
      rw [froz_ne fun z => ap i c hc m (by rw [e, z])]; exact (R.ownAt hc m e).1⟩,
   o.2.2.froze (same_froz o.1) froz_at⟩
theorem RVR.hold (R : Rel K T π F S ρ σ H) (h : RVR K T F S H ρ σ v r) : ∃ S', Same S S' ∧ Rel K T π F S' ρ σ H ∧ Held K T S' σ v r.hold := by
  cases r with
  | fro d => exact ⟨S, Same.refl S, R, h⟩
  | bor i => exact ⟨S, Same.refl S, R, h⟩
  | own d =>
    obtain ⟨a, rfl, o, ap⟩ := h
    obtain ⟨R', q⟩ := R.freeze o ap
    exact ⟨_, same_froz o.1, R', q⟩
theorem Held.mono (e : Same S S') (h : Held K T S σ v r) : Held K T S' σ v r := by
  cases r with
  | fro d => exact DR.mono e h
  | own d => exact h.elim
  | bor i => exact h
theorem HeldAll.mono (e : Same S S') : ∀ {vs : List V} {rs : List RV}, HeldAll K T S σ vs rs → HeldAll K T S' σ vs rs
  | _, _, .nil => .nil
  | _, _, .cons h r => .cons (h.mono e) (HeldAll.mono e r)
/-- what is held may be read -/
theorem Held.rd (R : Rel K T π F S ρ σ H) (h : Held K T S σ v r) (e : deref ρ r = some d) : RD K T S H v d := by
  cases r with
  | fro d' => cases e; exact .inl h
  | own d' => exact h.elim
  | bor i =>
    have h : σ[i]? = some (some v) := h
    unfold deref at e
    cases hc : ρ[i]? with
    | none => simp [hc] at e
    | some c =>
      have q := R.sl i c hc
      rw [h] at q
      cases c with
      | un => simp [hc] at e
      | fro d' =>
        simp [hc] at e; subst e
        obtain ⟨x, h1, h2⟩ := q
        cases h1
        exact .inl h2
      | own d' =>
        simp [hc] at e; subst e
        obtain ⟨a, h1, h2⟩ := q
        cases h1
        exact .inr ⟨a, rfl, h2.2.2⟩
      | brw d' =>
        simp [hc] at e; subst e
        obtain ⟨a, h1, _, h2⟩ := q
        cases h1
        exact .inr ⟨a, rfl, h2.2.2⟩
theorem RD.lst (sS : Same S H) {ds : List D} (h : RD K T S H v (.lst ds)) : ∃ a vs, v = .ref a ∧ H a = some (.lst vs) ∧ DRs K T S vs ds := by
  rcases h with h | ⟨a, rfl, vs, h1, h2⟩
  · cases h with
    | lst h r => exact ⟨_, _, rfl, sS _ _ h, r⟩
  · exact ⟨a, vs, rfl, h1, h2⟩
theorem RD.scr (sS : Same S H) {ns : List Int} (h : RD K T S H v (.scr ns)) : ∃ a, v = .ref a ∧ SqL K H a (ns.map V.int) := by
  rcases h with h | ⟨a, rfl, h⟩
  · cases h with
    | scr h => exact ⟨_, rfl, sS.seq h⟩
  · exact h.elim
theorem RD.tup {ds : List D} (h : RD K T S H v (.tup ds)) : ∃ a vs, v = .ref a ∧ SqT K S a vs ∧ DRs K T S vs ds := by
  rcases h with h | ⟨a, rfl, h⟩
  · cases h with
    | tup h r => exact ⟨_, _, rfl, h, r⟩
  · exact h.elim
theorem RD.obj (sS : Same S H) {c : Nat} {ds : List D} (h : RD K T S H v (.obj c ds)) : ∃ a dx fs, v = .ref a ∧ H a = some (.ins (T.ca c) dx fs) ∧ fs.map (·.1) = (T.fl c).take ds.length ∧ DRs K T S (fs.map (·.2)) ds := by
  rcases h with h | ⟨a, rfl, dx, fs, h1, h2, h3⟩
  · cases h with
    | obj h n r => exact ⟨_, _, _, rfl, sS _ _ h, n, r⟩
  · exact ⟨a, dx, fs, rfl, h1, h2, h3⟩
theorem RD.dic (sS : Same S H) {b : Bool} {ks vs : List D} (h : RD K T S H v (.dic b ks vs)) : ∃ a o kw ws, v = .ref a ∧ H a = some o ∧ DicH b a o kw ks ws ∧ DRs K T S kw ks ∧ DRs K T S ws vs := by
  rcases h with h | ⟨a, rfl, o, kw, ws, h1, h2, h3, h4⟩
  · cases h with
    | dic h n q r => exact ⟨_, _, _, _, rfl, sS _ _ h, n, q, r⟩
  · exact ⟨a, o, kw, ws, rfl, h1, h2, h3, h4⟩
theorem RD.int {i : Int} (h : RD K T S H v (.int i)) : v = .int i := by
  rcases h with h | ⟨a, rfl, h⟩
  · cases h; rfl
  · exact h.elim
theorem RD.bl {b : Bool} (h : RD K T S H v (.bl b)) : v = .bl b := by
  rcases h with h | ⟨a, rfl, h⟩
  · cases h; rfl
  · exact h.elim
theorem RD.str {x : Str} (h : RD K T S H v (.str x)) : v = .str x := by
  rcases h with h | ⟨a, rfl, h⟩
  · cases h; rfl
  · exact h.elim
theorem RD.non (h : RD K T S H v .non) : v = .non := by
  rcases h with h | ⟨a, rfl, h⟩
  · cases h; rfl
  · exact h.elim
end

/-! ### the readings -/
section
variable (K : PySem.W.Frag) (T : Tab)
def SE (f : EF) : TE := fun σ H Q => ∃ π F S ρ r ρ', Rel K T π F S ρ σ H ∧ f ρ = .ok (r, ρ') ∧ ∀ S' H' v, Same S S' → Rel K T π F S' ρ' σ H' → RVR K T F S' H' ρ' σ v r → Q v H'
def SA (f : AF) : TA := fun σ H Q => ∃ π F S ρ rs ρ', Rel K T π F S ρ σ H ∧ f ρ = .ok (rs, ρ') ∧ ∀ S' H' vs, Same S S' → Rel K T π F S' ρ' σ H' → HeldAll K T S' σ vs rs → Q vs H'
abbrev BF := Env → Res (Bool × Env)
def ST (f : BF) : TT := fun σ H Q => ∃ π F S ρ b ρ', Rel K T π F S ρ σ H ∧ f ρ = .ok (b, ρ') ∧ ∀ S' H', Same S S' → Rel K T π F S' ρ' σ H' → Q b H'
def FlW (π : L2.St) (F S : Hp) (ρ' : Env) (D : Ends) : Fl → Prop
  | .nx => ∀ S' σ' H', Same S S' → Rel K T π F S' ρ' σ' H' → D.nx σ' H'
  | .ret r => ∀ S' σ' H' v, Same S S' → Rel K T π F S' ρ' σ' H' → RVR K T F S' H' ρ' σ' v r → D.rt v H'
  | .bk => ∀ S' σ' H', Same S S' → Rel K T π F S' ρ' σ' H' → D.bk σ' H'
  | .ct => ∀ S' σ' H', Same S S' → Rel K T π F S' ρ' σ' H' → D.ct σ' H'
def SS (f : SF) : TS := fun D σ H => ∃ π F S ρ fl ρ', Rel K T π F S ρ σ H ∧ f ρ = .ok (fl, ρ') ∧ FlW K T π F S ρ' D fl
end
theorem _root_.L2.PE.imp {X : Cx} {e : Expr} {t t' : TE} (h : PE X e t) (i : ∀ σ H Q, t' σ H Q → t σ H Q) : PE X e t' := ⟨fun pins s σ H Q I q => h.run pins s σ H Q I (i _ _ _ q)⟩
theorem _root_.L2.PT.imp {X : Cx} {e : Expr} {t t' : TT} (h : PT X e t) (i : ∀ σ H Q, t' σ H Q → t σ H Q) : PT X e t' := ⟨fun pins s σ H Q I q => h.run pins s σ H Q I (i _ _ _ q)⟩
theorem _root_.L2.PW.imp {X : Cx} {e : Expr} {t t' : TT} (h : PW X e t) (i : ∀ σ H Q, t' σ H Q → t σ H Q) : PW X e t' := ⟨fun w pins s σ H Q I q => h.run w pins s σ H Q I (i _ _ _ q)⟩
theorem _root_.L2.PA.imp {X : Cx} {es : List Expr} {t t' : TA} (h : PA X es t) (i : ∀ σ H Q, t' σ H Q → t σ H Q) : PA X es t' := ⟨fun pos pins s σ H Q I q => h.run pos pins s σ H Q I (i _ _ _ q)⟩
theorem _root_.L2.PS.imp {X : Cx} {st : Stmt} {t t' : TS} (h : PS X st t) (i : ∀ D σ H, t' D σ H → t D σ H) : PS X st t' := ⟨fun pins s σ H D I q => h.run pins s σ H D I (i _ _ _ q)⟩
theorem _root_.L2.PSs.imp {X : Cx} {st : List Stmt} {t t' : TS} (h : PSs X st t) (i : ∀ D σ H, t' D σ H → t D σ H) : PSs X st t' := ⟨fun pins s σ H D I q => h.run pins s σ H D I (i _ _ _ q)⟩
end Dt
end

section
set_option Elab.async false
set_option linter.all false
set_option maxRecDepth 100000
set_option maxHeartbeats 4000000
set_option autoImplicit false
namespace Dt
open PySem PySem.Spec PyProof.Rows L2

/-! ### names -/
def eVar (i : Nat) : EF := fun ρ => match ρ[i]? with
  | some (.fro d) => .ok (.fro d, ρ)
  | some (.own d) => .ok (.fro d, ρ.set i (.fro d))
  | _ => .bad
def eUse (i : Nat) : EF := fun ρ => match ρ[i]? with
  | some (.fro d) => .ok (.fro d, ρ)
  | some (.own _) => .ok (.bor i, ρ)
  | some (.brw _) => .ok (.bor i, ρ)
  | _ => .bad
def eC (d : D) : EF := fun ρ => .ok (.fro d, ρ)

section
variable {K : PySem.W.Frag} {T : Tab} {π σ : L2.St} {F S S' H H' : Hp} {ρ ρ' : Env} {a : Addr} {v : V} {d : D} {r : RV}
theorem getElem?_set_cases {α : Type} {l : List α} {i j : Nat} {x y : α} (h : (l.set i x)[j]? = some y) : (j = i ∧ y = x) ∨ (j ≠ i ∧ l[j]? = some y) := by
  by_cases e : i = j
  · subst e
    rw [List.getElem?_set] at h
    split at h
    · split at h
      · cases h; exact .inl ⟨rfl, rfl⟩
      · cases h
    · exact absurd rfl (by assumption)
  · rw [List.getElem?_set_ne e] at h
    exact .inr ⟨fun z => e z.symm, h⟩
/-- a slot's own object is frozen -/
theorem Rel.freezeSlot (R : Rel K T π F S ρ σ H) {i : Nat} (hc : ρ[i]? = some (.own d)) : ∃ v, σ[i]? = some (some v) ∧ ∃ S', Same S S' ∧ Rel K T π F S' (ρ.set i (.fro d)) σ H ∧ DR K T S' v d := by
  obtain ⟨a, h1, o⟩ := R.sl i _ hc
  refine ⟨_, h1, froz S H a, same_froz o.1, ?_, o.2.2.froze (same_froz o.1) froz_at⟩
  have q : DR K T (froz S H a) (.ref a) d := o.2.2.froze (same_froz o.1) froz_at
  refine ⟨froz_same R.sS, R.sF, fun b x e => ?_, R.nS.froz o.2.2, R.nF, R.tb, by rw [List.length_set]; exact R.len, fun j c hj => ?_, fun j k b cj ck hj hk mj mk ej ek => ?_⟩
  · by_cases hb : b = a
    · subst hb; rw [o.2.1] at e; cases e
    · rw [froz_ne hb]; exact R.dj _ _ e
  · rcases getElem?_set_cases hj with ⟨rfl, rfl⟩ | ⟨nj, hj⟩
    · exact ⟨_, h1, q⟩
    · have q := R.sl j c hj
      have keep : ∀ b, σ[j]? = some (some (V.ref b)) → c.mut = true → (froz S H a) b = S b := fun b e m => froz_ne fun z => nj (R.ds j i a c _ hj hc m rfl (by rw [e, z]) h1)
      cases c with
      | un => trivial
      | fro d => obtain ⟨x, e1, e2⟩ := q; exact ⟨x, e1, e2.mono (same_froz o.1)⟩
      | own d => obtain ⟨b, e1, e2⟩ := q; exact ⟨b, e1, e2.mono (same_froz o.1) (by rw [keep b e1 rfl]; exact e2.1)⟩
      | brw d => obtain ⟨b, e1, e0, e2⟩ := q; exact ⟨b, e1, e0, e2.mono (same_froz o.1) (by rw [keep b e1 rfl]; exact e2.1)⟩
  · rcases getElem?_set_cases hj with ⟨rfl, rfl⟩ | ⟨nj, hj⟩
    · cases mj
    · rcases getElem?_set_cases hk with ⟨rfl, rfl⟩ | ⟨nk, hk⟩
      · cases mk
      · exact R.ds j k b cj ck hj hk mj mk ej ek
end

section
variable {X : Cx} {T : Tab}
theorem ee_var {e : Expr} {i : Nat} (h : PE X e (tVar i)) : PE X e (SE X.K T (eVar i)) := h.imp fun σ H Q ⟨π, F, S, ρ, r, ρ', R, e, q⟩ => by
  unfold eVar at e
  cases hc : ρ[i]? with
  | none => simp [hc] at e
  | some c =>
    cases c with
    | un => simp [hc] at e
    | brw d => simp [hc] at e
    | fro d =>
      simp [hc] at e
      obtain ⟨rfl, rfl⟩ := e
      obtain ⟨v, e1, e2⟩ := R.sl i _ hc
      exact ⟨v, e1, q S H v (Same.refl S) R e2⟩
    | own d =>
      simp [hc] at e
      obtain ⟨rfl, rfl⟩ := e
      obtain ⟨v, e1, S', sS, R', e2⟩ := R.freezeSlot hc
      exact ⟨v, e1, q S' H v sS R' e2⟩
theorem ee_use {e : Expr} {i : Nat} (h : PE X e (tVar i)) : PE X e (SE X.K T (eUse i)) := h.imp fun σ H Q ⟨π, F, S, ρ, r, ρ', R, e, q⟩ => by
  unfold eUse at e
  cases hc : ρ[i]? with
  | none => simp [hc] at e
  | some c =>
    cases c with
    | un => simp [hc] at e
    | brw d =>
      simp [hc] at e
      obtain ⟨rfl, rfl⟩ := e
      obtain ⟨v, e1, e2⟩ := R.sl i _ hc
      exact ⟨.ref v, e1, q S H _ (Same.refl S) R e1⟩
    | fro d =>
      simp [hc] at e
      obtain ⟨rfl, rfl⟩ := e
      obtain ⟨v, e1, e2⟩ := R.sl i _ hc
      exact ⟨v, e1, q S H v (Same.refl S) R e2⟩
    | own d =>
      simp [hc] at e
      obtain ⟨rfl, rfl⟩ := e
      obtain ⟨v, e1, e2⟩ := R.sl i _ hc
      exact ⟨.ref v, e1, q S H _ (Same.refl S) R e1⟩
theorem ee_C {e : Expr} {v : V} {d : D} (h : PE X e (tC v)) (hd : ∀ S, DR X.K T S v d) : PE X e (SE X.K T (eC d)) := h.imp fun σ H Q ⟨π, F, S, ρ, r, ρ', R, e, q⟩ => by
  cases e
  exact q S H v (Same.refl S) R (hd S)
theorem ee_int {i : Int} {j pos} : PE X (.Constant (.int i) j pos) (SE X.K T (eC (.int i))) := ee_C pe_int fun _ => .int i
theorem ee_bl {b : Bool} {j pos} : PE X (.Constant (.bool b) j pos) (SE X.K T (eC (.bl b))) := ee_C pe_bl fun _ => .bl b
theorem ee_non {j pos} : PE X (.Constant .none j pos) (SE X.K T (eC .non)) := ee_C pe_non fun _ => .non
theorem ee_str {x : Str} {j pos} : PE X (.Constant (.str x) j pos) (SE X.K T (eC (.str x))) := ee_C pe_str fun _ => .str x
end

/-! ### one and two operands -/
def e1 (g : D → Res RV) (fa : EF) : EF := fun ρ => (fa ρ).bind fun (x, ρ1) => (Res.of (deref ρ1 x.hold)).bind fun d => (g d).bind fun r => .ok (r, ρ1)
def e2 (g : D → D → Res RV) (fa fb : EF) : EF := fun ρ => (fa ρ).bind fun (x, ρ1) => (fb ρ1).bind fun (y, ρ2) => (Res.of (deref ρ2 x.hold)).bind fun d => (Res.of (deref ρ2 y.hold)).bind fun e => (g d e).bind fun r => .ok (r, ρ2)
/-- an operation by data -/
def Op1 (K : PySem.W.Frag) (T : Tab) (r : V → Hp → VK → Prop) (g : D → Res RV) : Prop :=
  ∀ π F S ρ σ H x d res Q, Rel K T π F S ρ σ H → RD K T S H x d → g d = .ok res → (∀ S' H' v, Same S S' → Rel K T π F S' ρ σ H' → RVR K T F S' H' ρ σ v res → Q v H') → r x H Q
def Op2 (K : PySem.W.Frag) (T : Tab) (r : R2) (g : D → D → Res RV) : Prop :=
  ∀ π F S ρ σ H x y d e res Q, Rel K T π F S ρ σ H → RD K T S H x d → RD K T S H y e → g d e = .ok res → (∀ S' H' v, Same S S' → Rel K T π F S' ρ σ H' → RVR K T F S' H' ρ σ v res → Q v H') → r x y H Q
section
variable {K : PySem.W.Frag} {T : Tab}
theorem SE.e1 {fa : EF} {g : D → Res RV} {r : V → Hp → VK → Prop} (h : Op1 K T r g) {σ : L2.St} {H : Hp} {Q : VK} (q : SE K T (e1 g fa) σ H Q) : SE K T fa σ H fun x H1 => r x H1 Q := by
  obtain ⟨π, F, S, ρ, res, ρ', R, e, q⟩ := q
  obtain ⟨⟨x, ρ1⟩, ea, e⟩ := Res.bind_eq e
  obtain ⟨d, ed, e⟩ := Res.bind_eq e
  obtain ⟨res', eg, e⟩ := Res.bind_eq e
  cases e
  refine ⟨π, F, S, ρ, x, _, R, ea, fun S1 H1 v s1 R1 rv => ?_⟩
  obtain ⟨S2, s2, R2, hv⟩ := rv.hold R1
  exact h π F S2 _ σ H1 v d res Q R2 (hv.rd R2 (Res.of_eq ed)) eg fun S' H' w s' R' rw' => q S' H' w (s1.trans (s2.trans s')) R' rw'
theorem SE.e2 {fa fb : EF} {g : D → D → Res RV} {r : R2} (h : Op2 K T r g) {σ : L2.St} {H : Hp} {Q : VK} (q : SE K T (e2 g fa fb) σ H Q) : SE K T fa σ H fun x H1 => SE K T fb σ H1 fun y H2 => r x y H2 Q := by
  obtain ⟨π, F, S, ρ, res, ρ', R, e, q⟩ := q
  obtain ⟨⟨x, ρ1⟩, ea, e⟩ := Res.bind_eq e
  obtain ⟨⟨y, ρ2⟩, eb, e⟩ := Res.bind_eq e
  obtain ⟨d, ed, e⟩ := Res.bind_eq e
  obtain ⟨d', ed', e⟩ := Res.bind_eq e
  obtain ⟨res', eg, e⟩ := Res.bind_eq e
  cases e
  refine ⟨π, F, S, ρ, x, _, R, ea, fun S1 H1 v s1 R1 rv => ?_⟩
  obtain ⟨S2, s2, R2, hv⟩ := rv.hold R1
  refine ⟨π, F, S2, _, y, _, R2, eb, fun S3 H3 u s3 R3 ru => ?_⟩
  obtain ⟨S4, s4, R4, hu⟩ := ru.hold R3
  exact h π F S4 _ σ H3 v u d d' res Q R4 ((hv.mono (s3.trans s4)).rd R4 (Res.of_eq ed)) (hu.rd R4 (Res.of_eq ed')) eg fun S' H' w s' R' rw' => q S' H' w (s1.trans (s2.trans (s3.trans (s4.trans s')))) R' rw'
end
section
variable {X : Cx} {T : Tab} {a b : Expr} {fa fb : EF} {pos : Pos}
theorem ee_op {op : Operator} {r : R2} {g : D → D → Res RV} (ho : OpR X (binaryOp op) r) (hg : Op2 X.K T r g) (ha : PE X a (SE X.K T fa)) (hb : PE X b (SE X.K T fb)) : PE X (.BinOp a op b pos) (SE X.K T (e2 g fa fb)) := (pe_op ho ha hb).imp fun _ _ _ q => q.e2 hg
theorem ee_un {op : UnaryOp} {r : V → Hp → VK → Prop} {g : D → Res RV} (ho : UnR X (unaryOp op) r) (hg : Op1 X.K T r g) (ha : PE X a (SE X.K T fa)) : PE X (.UnaryOp op a pos) (SE X.K T (e1 g fa)) := (pe_un ho ha).imp fun _ _ _ q => q.e1 hg
theorem ee_cmp {op : CmpOp} {r : R2} {g : D → D → Res RV} (ho : OpR X (compareOp op) r) (hg : Op2 X.K T r g) (ha : PE X a (SE X.K T fa)) (hb : PE X b (SE X.K T fb)) (hm : behindInMarks op b = false) : PE X (.Compare a [op] [b] pos) (SE X.K T (e2 g fa fb)) := (pe_cmpR ho ha hb hm).imp fun _ _ _ q => q.e2 hg
theorem ee_ix {r : R2} {g : D → D → Res RV} (hr : IxR X r) (hg : Op2 X.K T r g) (ha : PE X a (SE X.K T fa)) (hb : PE X b (SE X.K T fb)) (hs : PlainIx b) : PE X (.Subscript a b pos) (SE X.K T (e2 g fa fb)) := (pe_ix hr ha hb hs).imp fun _ _ _ q => q.e2 hg
end

/-! ### the operations -/
def gInt (h : Int → Int → Res RV) : D → D → Res RV
  | .int i, .int j => h i j
  | _, _ => .bad
def oInt (c : Int → Int → Bool) (f : Int → Int → Int) : D → D → Res RV := gInt fun i j => if c i j then .ok (.fro (.int (f i j))) else .bad
def oCmp (f : Int → Int → Bool) : D → D → Res RV := gInt fun i j => .ok (.fro (.bl (f i j)))
section
variable {K : PySem.W.Frag} {T : Tab}
theorem op_rI {C : Int → Int → Prop} {c : Int → Int → Bool} {f : Int → Int → Int} (hc : ∀ i j, c i j = true → C i j) : Op2 K T (rI C fun i j => .int (f i j)) (oInt c f) := by
  intro π F S ρ σ H x y d e res Q R hx hy hg q
  cases d <;> first | (cases hg; done) | skip
  cases e <;> first | (cases hg; done) | skip
  rename_i i j
  have hg : (if c i j then Res.ok (RV.fro (.int (f i j))) else .bad) = .ok res := hg
  cases h : c i j with
  | false => rw [h] at hg; cases hg
  | true =>
    rw [h] at hg; cases hg
    exact ⟨i, j, hx.int, hy.int, hc i j h, q S H _ (Same.refl S) R (.int _)⟩
theorem op_rI0 {f : Int → Int → Int} : Op2 K T (rI0 fun i j => .int (f i j)) (oInt (fun _ _ => true) f) := by
  intro π F S ρ σ H x y d e res Q R hx hy hg q
  cases d <;> first | (cases hg; done) | skip
  cases e <;> first | (cases hg; done) | skip
  rename_i i j
  cases hg
  exact ⟨i, j, hx.int, hy.int, q S H _ (Same.refl S) R (.int _)⟩
theorem op_rB0 {f : Int → Int → Bool} : Op2 K T (rI0 fun i j => .bl (f i j)) (oCmp f) := by
  intro π F S ρ σ H x y d e res Q R hx hy hg q
  cases d <;> first | (cases hg; done) | skip
  cases e <;> first | (cases hg; done) | skip
  rename_i i j
  cases hg
  exact ⟨i, j, hx.int, hy.int, q S H _ (Same.refl S) R (.bl _)⟩
end
abbrev oAdd := oInt (fun _ _ => true) fun i j => i + j
abbrev oSub := oInt (fun _ _ => true) fun i j => i - j
abbrev oMul := oInt (fun i j => (decide (-(2 ^ 64) < i) && decide (i < 2 ^ 64)) || (decide (-(2 ^ 64) < j) && decide (j < 2 ^ 64))) fun i j => i * j
abbrev oMod := oInt (fun _ j => decide (0 < j)) fun i j => i % j
abbrev oDiv := oInt (fun _ j => decide (0 < j) && decide (j < 1073741824)) fun i j => i / j
abbrev oLt := oCmp fun i j => decide (i < j)
abbrev oLe := oCmp fun i j => decide (i ≤ j)
abbrev oGt := oCmp fun i j => decide (j < i)
abbrev oGe := oCmp fun i j => decide (j ≤ i)
section
variable {X : Cx} {T : Tab} {a b : Expr} {fa fb : EF} {pos : Pos}
theorem ee_add (ha : PE X a (SE X.K T fa)) (hb : PE X b (SE X.K T fb)) : PE X (.BinOp a .Add b pos) (SE X.K T (e2 oAdd fa fb)) := ee_op op_add op_rI0 ha hb
theorem ee_sub (ha : PE X a (SE X.K T fa)) (hb : PE X b (SE X.K T fb)) : PE X (.BinOp a .Sub b pos) (SE X.K T (e2 oSub fa fb)) := ee_op op_sub op_rI0 ha hb
theorem ee_mul (ha : PE X a (SE X.K T fa)) (hb : PE X b (SE X.K T fb)) : PE X (.BinOp a .Mult b pos) (SE X.K T (e2 oMul fa fb)) := ee_op op_mul (op_rI fun i j h => by
  rw [Bool.or_eq_true, Bool.and_eq_true, Bool.and_eq_true] at h
  rcases h with ⟨h1, h2⟩ | ⟨h1, h2⟩
  · exact .inl ⟨of_decide_eq_true h1, of_decide_eq_true h2⟩
  · exact .inr ⟨of_decide_eq_true h1, of_decide_eq_true h2⟩) ha hb
theorem ee_mod (ha : PE X a (SE X.K T fa)) (hb : PE X b (SE X.K T fb)) : PE X (.BinOp a .Mod b pos) (SE X.K T (e2 oMod fa fb)) := ee_op op_mod (op_rI fun i j h => of_decide_eq_true h) ha hb
theorem ee_div (ha : PE X a (SE X.K T fa)) (hb : PE X b (SE X.K T fb)) : PE X (.BinOp a .FloorDiv b pos) (SE X.K T (e2 oDiv fa fb)) := ee_op op_fdiv (op_rI fun i j h => by
  rw [Bool.and_eq_true] at h
  exact ⟨of_decide_eq_true h.1, of_decide_eq_true h.2⟩) ha hb
theorem ee_lt (ha : PE X a (SE X.K T fa)) (hb : PE X b (SE X.K T fb)) : PE X (.Compare a [.Lt] [b] pos) (SE X.K T (e2 oLt fa fb)) := ee_cmp op_lt op_rB0 ha hb (nomark _)
theorem ee_le (ha : PE X a (SE X.K T fa)) (hb : PE X b (SE X.K T fb)) : PE X (.Compare a [.LtE] [b] pos) (SE X.K T (e2 oLe fa fb)) := ee_cmp op_le op_rB0 ha hb (nomark _)
theorem ee_gt (ha : PE X a (SE X.K T fa)) (hb : PE X b (SE X.K T fb)) : PE X (.Compare a [.Gt] [b] pos) (SE X.K T (e2 oGt fa fb)) := ee_cmp op_gt op_rB0 ha hb (nomark _)
theorem ee_ge (ha : PE X a (SE X.K T fa)) (hb : PE X b (SE X.K T fb)) : PE X (.Compare a [.GtE] [b] pos) (SE X.K T (e2 oGe fa fb)) := ee_cmp op_ge op_rB0 ha hb (nomark _)
end
def oNeg : D → Res RV
  | .int i => .ok (.fro (.int (-i)))
  | _ => .bad
theorem ee_neg {X : Cx} {T : Tab} {a : Expr} {fa : EF} {pos : Pos} (ha : PE X a (SE X.K T fa)) : PE X (.UnaryOp .USub a pos) (SE X.K T (e1 oNeg fa)) := ee_un un_neg (by
  intro π F S ρ σ H x d res Q R hx hg q
  cases d <;> first | (cases hg; done) | skip
  cases hg
  exact ⟨_, hx.int, q S H _ (Same.refl S) R (.int _)⟩) ha

/-! ### == of data -/
mutual
def D.py : D → Option PyData
  | .non => some .none
  | .bl b => some (.bool b)
  | .int i => some (.int i)
  | .str x => some (.str x)
  | .tup xs => (D.pys xs).map .tuple
  | .lst xs => (D.pys xs).map .list
  | .scr ns => some (.list (ns.map .int))
  | .dic _ _ _ => none
  | .obj _ _ => none
  | .fn _ _ => none
def D.pys : List D → Option (List PyData)
  | [] => some []
  | d :: ds => match D.py d, D.pys ds with
    | some p, some ps => some (p :: ps)
    | _, _ => none
end
section
variable {K : PySem.W.Frag} {T : Tab} {S H : Hp}
theorem dp_ints : ∀ ns : List Int, DpAll K S (ns.map V.int) (ns.map PyData.int)
  | [] => .nil
  | n :: ns => .cons (.int n) (dp_ints ns)
mutual
theorem DR.dp : ∀ {v : V} {d : D} {p : PyData}, DR K T S v d → d.py = some p → Dp K S v p
  | _, _, _, .non, e => by cases e; exact .non
  | _, _, _, .bl b, e => by cases e; exact .bl b
  | _, _, _, .int i, e => by cases e; exact .int i
  | _, _, _, .str x, e => by cases e; exact .str x
  | _, _, _, .tup h r, e => by
    rw [D.py] at e
    obtain ⟨ps, e1, e2⟩ := Option.map_eq_some_iff.mp e
    subst e2
    exact .tup h (DRs.dps r e1)
  | _, _, _, .lst h r, e => by
    rw [D.py] at e
    obtain ⟨ps, e1, e2⟩ := Option.map_eq_some_iff.mp e
    subst e2
    exact .lst (.of h) (DRs.dps r e1)
  | _, _, _, .scr h, e => by
    rw [D.py] at e
    cases e
    exact .lst h (dp_ints _)
  | _, _, _, .obj _ _ _, e => by rw [D.py] at e; cases e
  | _, _, _, .dic _ _ _ _, e => by rw [D.py] at e; cases e
theorem DRs.dps : ∀ {vs : List V} {ds : List D} {ps : List PyData}, DRs K T S vs ds → D.pys ds = some ps → DpAll K S vs ps
  | _, _, _, .nil, e => by rw [D.pys] at e; cases e; exact .nil
  | _, _, _, .cons h r, e => by
    rw [D.pys] at e
    split at e
    · rename_i p ps e1 e2
      cases e
      exact .cons (DR.dp h e1) (DRs.dps r e2)
    · cases e
end
/-- data that may be read now, in the whole heap -/
theorem RD.all {v : V} {d : D} (sS : Same S H) (h : RD K T S H v d) : DR K T H v d := by
  rcases h with h | ⟨a, rfl, h⟩
  · exact h.mono sS
  · exact h.froze sS rfl
end
def D.eqv (d e : D) : Option Bool := match d.py, e.py with
  | some p, some q => if SeqAt.shaped p && SeqAt.shaped q then some (PyData.eqv p q) else none
  | _, _ => none
def oEq : D → D → Res RV := fun d e => (Res.of (d.eqv e)).bind fun b => .ok (.fro (.bl b))
def oNe : D → D → Res RV := fun d e => (Res.of (d.eqv e)).bind fun b => .ok (.fro (.bl (!b)))
section
variable {K : PySem.W.Frag} {T : Tab}
theorem eqv_eq {d e : D} {b : Bool} (h : d.eqv e = some b) : ∃ p q, d.py = some p ∧ e.py = some q ∧ SeqAt.shaped p = true ∧ SeqAt.shaped q = true ∧ b = PyData.eqv p q := by
  unfold D.eqv at h
  split at h
  · rename_i p q e1 e2
    split at h
    · rename_i hs
      cases h
      rw [Bool.and_eq_true] at hs
      exact ⟨p, q, e1, e2, hs.1, hs.2, rfl⟩
    · cases h
  · cases h
theorem op_rEqD : Op2 K T (rEqD K) oEq := by
  intro π F S ρ σ H x y d e res Q R hx hy hg q
  obtain ⟨b, h1, h2⟩ := Res.bind_eq hg
  cases h2
  obtain ⟨p, p', e1, e2, s1, s2, rfl⟩ := eqv_eq (Res.of_eq h1)
  exact ⟨p, p', (hx.all R.sS).dp e1, (hy.all R.sS).dp e2, s1, s2, q S H _ (Same.refl S) R (.bl _)⟩
theorem op_rNeD : Op2 K T (rNeD K) oNe := by
  intro π F S ρ σ H x y d e res Q R hx hy hg q
  obtain ⟨b, h1, h2⟩ := Res.bind_eq hg
  cases h2
  obtain ⟨p, p', e1, e2, s1, s2, rfl⟩ := eqv_eq (Res.of_eq h1)
  exact ⟨p, p', (hx.all R.sS).dp e1, (hy.all R.sS).dp e2, s1, s2, q S H _ (Same.refl S) R (.bl _)⟩
end
section
variable {X : Cx} {T : Tab} {a b : Expr} {fa fb : EF} {pos : Pos}
theorem ee_eq (hu : X.A.units + 64 < cLine) (ha : PE X a (SE X.K T fa)) (hb : PE X b (SE X.K T fb)) : PE X (.Compare a [.Eq] [b] pos) (SE X.K T (e2 oEq fa fb)) := ee_cmp (op_eqD hu) op_rEqD ha hb (nomark _)
theorem ee_ne (hu : X.A.units + 64 < cLine) (ha : PE X a (SE X.K T fa)) (hb : PE X b (SE X.K T fb)) : PE X (.Compare a [.NotEq] [b] pos) (SE X.K T (e2 oNe fa fb)) := ee_cmp (op_neD hu) op_rNeD ha hb (nomark _)
end
/-! ### is None -/
def D.isN : D → Bool
  | .non => true
  | _ => false
def oIsN : D → D → Res RV := fun d e => match e with
  | .non => .ok (.fro (.bl d.isN))
  | _ => .bad
def oNotN : D → D → Res RV := fun d e => match e with
  | .non => .ok (.fro (.bl (!d.isN)))
  | _ => .bad
theorem RD.isN {K : PySem.W.Frag} {T : Tab} {S H : Hp} {v : V} {d : D} (h : RD K T S H v d) : decide (v = .non) = d.isN := by
  rcases h with h | ⟨a, rfl, h⟩
  · cases h <;> simp [D.isN]
  · cases d <;> first | exact h.elim | simp [D.isN]
section
variable {X : Cx} {T : Tab} {a b : Expr} {fa fb : EF} {pos : Pos}
theorem ee_isN (ha : PE X a (SE X.K T fa)) (hb : PE X b (SE X.K T fb)) : PE X (.Compare a [.Is] [b] pos) (SE X.K T (e2 oIsN fa fb)) := ee_cmp op_isN (by
  intro π F S ρ σ H x y d e res Q R hx hy hg q
  cases e <;> first | (cases hg; done) | skip
  cases hg
  exact ⟨hy.non, by rw [hx.isN]; exact q S H _ (Same.refl S) R (.bl _)⟩) ha hb (nomark _)
theorem ee_notN (ha : PE X a (SE X.K T fa)) (hb : PE X b (SE X.K T fb)) : PE X (.Compare a [.IsNot] [b] pos) (SE X.K T (e2 oNotN fa fb)) := ee_cmp op_notN (by
  intro π F S ρ σ H x y d e res Q R hx hy hg q
  cases e <;> first | (cases hg; done) | skip
  cases hg
  exact ⟨hy.non, by rw [hx.isN]; exact q S H _ (Same.refl S) R (.bl _)⟩) ha hb (nomark _)
end
/-! ### in a list or tuple of flat data -/
def D.flat : D → Bool
  | .non => true
  | .bl _ => true
  | .int _ => true
  | .str _ => true
  | _ => false
def D.eqF : D → D → Bool
  | .non, .non => true
  | .bl a, .bl b => a == b
  | .bl a, .int b => (if a then 1 else 0) == b
  | .int a, .bl b => a == (if b then 1 else 0)
  | .int a, .int b => a == b
  | .str a, .str b => a == b
  | _, _ => false
def inF (x : D) (xs : List D) : Bool := xs.any fun y => D.eqF y x
def D.items : D → Option (List D)
  | .lst xs => some xs
  | .tup xs => some xs
  | .scr ns => some (ns.map .int)
  | _ => none
def oIn (neg : Bool) : D → D → Res RV := fun d e => (Res.of e.items).bind fun xs => if d.flat && xs.all D.flat then .ok (.fro (.bl (if neg then !inF d xs else inF d xs))) else .bad
section
variable {K : PySem.W.Frag} {T : Tab} {S H : Hp}
theorem DR.flat {v : V} {d : D} (h : DR K T S v d) (f : d.flat = true) : flatV v = true := by
  cases h <;> first | rfl | (cases f; done)
theorem DR.eqF {v w : V} {d e : D} (h : DR K T S v d) (f : d.flat = true) (h' : DR K T S w e) (f' : e.flat = true) : eqV v w = D.eqF d e := by
  cases h <;> first | (cases f; done) | skip
  all_goals (cases h' <;> first | (cases f'; done) | rfl)
theorem DRs.flat : ∀ {vs : List V} {ds : List D}, DRs K T S vs ds → ds.all D.flat = true → vs.all flatV = true
  | _, _, .nil, _ => rfl
  | _, _, .cons h r, f => by
    rw [List.all_cons, Bool.and_eq_true] at f ⊢
    exact ⟨h.flat f.1, DRs.flat r f.2⟩
theorem DRs.inF {v : V} {d : D} (h : DR K T S v d) (f : d.flat = true) : ∀ {vs : List V} {ds : List D}, DRs K T S vs ds → ds.all D.flat = true → inV v vs = Dt.inF d ds
  | _, _, .nil, _ => rfl
  | _, _, .cons h' r, f' => by
    rw [List.all_cons, Bool.and_eq_true] at f'
    unfold inV Dt.inF
    rw [List.any_cons, List.any_cons, h'.eqF f'.1 h f]
    congr 1
    exact DRs.inF h f r f'.2
/-- a list or a tuple that may be read -/
theorem RD.items {v : V} {d : D} (sS : Same S H) (h : RD K T S H v d) {xs : List D} (e : d.items = some xs) : ∃ a vs, v = .ref a ∧ (SqL K H a vs ∨ SqT K H a vs) ∧ DRs K T S vs xs := by
  cases d <;> first | (cases e; done) | skip
  · cases e
    obtain ⟨a, vs, h1, h2, h3⟩ := h.tup
    exact ⟨a, vs, h1, .inr (sqT_same sS h2), h3⟩
  · cases e
    obtain ⟨a, vs, h1, h2, h3⟩ := h.lst sS
    exact ⟨a, vs, h1, .inl (.of h2), h3⟩
  · cases e
    obtain ⟨a, h1, h2⟩ := h.scr sS
    exact ⟨a, _, h1, .inl h2, drs_ints _⟩
theorem op_rIn {neg : Bool} : Op2 K T (rIn K neg) (oIn neg) := by
  intro π F S ρ σ H x y d e res Q R hx hy hg q
  obtain ⟨xs, e1, hg⟩ := Res.bind_eq hg
  split at hg
  · rename_i hf
    cases hg
    rw [Bool.and_eq_true] at hf
    obtain ⟨a, vs, rfl, h1, h2⟩ := hy.items R.sS (Res.of_eq e1)
    have hx' := hx.all R.sS
    have h2' := h2.mono R.sS
    exact ⟨a, vs, rfl, h1, hx'.flat hf.1, h2'.flat hf.2, by rw [DRs.inF hx' hf.1 h2' hf.2]; exact q S H _ (Same.refl S) R (.bl _)⟩
  · cases hg
end
section
variable {X : Cx} {T : Tab} {a b : Expr} {fa fb : EF} {pos : Pos}
theorem ee_in (ha : PE X a (SE X.K T fa)) (hb : PE X b (SE X.K T fb)) (hm : behindInMarks .In b = false) : PE X (.Compare a [.In] [b] pos) (SE X.K T (e2 (oIn false) fa fb)) := ee_cmp op_in_seq op_rIn ha hb hm
theorem ee_notIn (ha : PE X a (SE X.K T fa)) (hb : PE X b (SE X.K T fb)) (hm : behindInMarks .NotIn b = false) : PE X (.Compare a [.NotIn] [b] pos) (SE X.K T (e2 (oIn true) fa fb)) := ee_cmp op_notIn_seq op_rIn ha hb hm
end
/-! ### xs[i] -/
def oIx : D → D → Res RV := fun d e => match d, e with
  | .lst xs, .int i => (Res.of (atI xs i)).bind fun x => .ok (.fro x)
  | .tup xs, .int i => (Res.of (atI xs i)).bind fun x => .ok (.fro x)
  | .scr ns, .int i => (Res.of (atI (ns.map .int) i)).bind fun x => .ok (.fro x)
  | _, _ => .bad
section
variable {K : PySem.W.Frag} {T : Tab} {S H : Hp}
theorem DRs.atI {vs : List V} {ds : List D} {i : Int} {d : D} (h : DRs K T S vs ds) (e : L2.atI ds i = some d) : ∃ v, L2.atI vs i = some v ∧ DR K T S v d := by
  unfold L2.atI at e ⊢
  rw [h.length]
  cases q : ixN ds.length i with
  | none => rw [q] at e; cases e
  | some j =>
    rw [q] at e
    exact h.get e
theorem op_rIx : Op2 K T (fun x y H Q => rIxL K x y H Q ∨ rIxT K x y H Q) oIx := by
  intro π F S ρ σ H x y d e res Q R hx hy hg q
  cases d <;> first | (cases hg; done) | skip
  all_goals (cases e <;> first | (cases hg; done) | skip)
  all_goals (obtain ⟨z, e1, hg⟩ := Res.bind_eq hg; cases hg)
  · obtain ⟨a, vs, rfl, h1, h2⟩ := hx.tup
    obtain ⟨v, e2, h3⟩ := h2.atI (Res.of_eq e1)
    exact .inr ⟨a, vs, _, v, rfl, hy.int, sqT_same R.sS h1, e2, q S H v (Same.refl S) R h3⟩
  · obtain ⟨a, vs, rfl, h1, h2⟩ := hx.lst R.sS
    obtain ⟨v, e2, h3⟩ := h2.atI (Res.of_eq e1)
    exact .inl ⟨a, vs, _, v, rfl, hy.int, .of h1, e2, q S H v (Same.refl S) R h3⟩
  · obtain ⟨a, rfl, h1⟩ := hx.scr R.sS
    obtain ⟨v, e2, h3⟩ := (drs_ints _).atI (Res.of_eq e1)
    exact .inl ⟨a, _, _, v, rfl, hy.int, h1, e2, q S H v (Same.refl S) R h3⟩
end
theorem ee_sub_ {X : Cx} {T : Tab} {a b : Expr} {fa fb : EF} {pos : Pos} (ha : PE X a (SE X.K T fa)) (hb : PE X b (SE X.K T fb)) (hs : PlainIx b) : PE X (.Subscript a b pos) (SE X.K T (e2 oIx fa fb)) := ee_ix (ix_list.or ix_tup) op_rIx ha hb hs
end Dt
end

section
set_option Elab.async false
set_option linter.all false
set_option maxRecDepth 100000
set_option maxHeartbeats 4000000
set_option autoImplicit false
namespace Dt
open PySem PySem.Spec PyProof.Rows L2

/-! ### tests -/
def D.tru : D → Option Bool
  | .non => some false
  | .bl b => some b
  | .int i => some (i != 0)
  | .str x => if x.length ≤ sizeLine then some ((x.length : Int) != 0) else none
  | .tup xs => some (!xs.isEmpty)
  | .lst xs => some (!xs.isEmpty)
  | .scr ns => some (!ns.isEmpty)
  | _ => none
/-- an operand's data, then the rest; a test's answer, then the rest -/
def getD {β : Type} (f : EF) (k : D → Env → Res β) : Env → Res β := fun ρ => (f ρ).bind fun p => (Res.of (deref p.2 p.1.hold)).bind fun d => k d p.2
def getB {β : Type} (f : BF) (k : Bool → Env → Res β) : Env → Res β := fun ρ => (f ρ).bind fun p => k p.1 p.2
/-- an expression whose value is a bool, as a test; any value's truth -/
def bB (f : EF) : BF := getD f fun d ρ1 => match d with
  | .bl b => .ok (b, ρ1)
  | _ => .bad
def bT (f : EF) : BF := getD f fun d ρ1 => (Res.of d.tru).bind fun b => .ok (b, ρ1)
def bAnd (f g : BF) : BF := getB f fun b ρ1 => if b = true then g ρ1 else .ok (false, ρ1)
def bOr (f g : BF) : BF := getB f fun b ρ1 => if b = true then .ok (true, ρ1) else g ρ1
def bNot (f : BF) : BF := getB f fun b ρ1 => .ok (!b, ρ1)
def eIf (c : BF) (f g : EF) : EF := getB c fun b ρ1 => if b = true then f ρ1 else g ρ1
def eAnd (f g : EF) : EF := getD f fun d ρ1 => match d with
  | .bl b => if b = true then g ρ1 else .ok (.fro (.bl false), ρ1)
  | _ => .bad
def eOr (f g : EF) : EF := getD f fun d ρ1 => match d with
  | .bl b => if b = true then .ok (.fro (.bl true), ρ1) else g ρ1
  | _ => .bad
def eNot (f : EF) : EF := getD f fun d ρ1 => match d with
  | .bl b => .ok (.fro (.bl (!b)), ρ1)
  | _ => .bad
section
variable {K : PySem.W.Frag} {T : Tab} {fa : EF} {σ : L2.St} {H : Hp}
/-- an operand's data, then the rest -/
theorem SE.data {β : Type} {k : D → Env → Res β} {Q : VK} {π : L2.St} {F S : Hp} {ρ : Env} {out : β} (R : Rel K T π F S ρ σ H)
    (e : getD fa k ρ = .ok out)
    (h : ∀ S' H' ρ1 v d, Same S S' → Rel K T π F S' ρ1 σ H' → RD K T S' H' v d → k d ρ1 = .ok out → Q v H') : SE K T fa σ H Q := by
  obtain ⟨⟨x, ρ1⟩, ea, e⟩ := Res.bind_eq e
  obtain ⟨d, ed, e⟩ := Res.bind_eq e
  refine ⟨π, F, S, ρ, x, ρ1, R, ea, fun S1 H1 v s1 R1 rv => ?_⟩
  obtain ⟨S2, s2, R2, hv⟩ := rv.hold R1
  exact h S2 H1 ρ1 v d (s1.trans s2) R2 (hv.rd R2 (Res.of_eq ed)) e
theorem RD.tru {S : Hp} {v : V} {d : D} {b : Bool} (sS : Same S H) (h : RD K T S H v d) (e : d.tru = some b) : TruV K v H b := by
  cases d <;> first | (cases e; done) | skip
  · cases e; cases h.non; rfl
  · cases e; cases h.bl; rfl
  · cases e; cases h.int; rfl
  · rename_i x
    cases h.str
    have e : (if x.length ≤ sizeLine then some ((x.length : Int) != 0) else none) = some b := e
    by_cases hx : x.length ≤ sizeLine
    · rw [if_pos hx] at e
      cases e; exact ⟨hx, rfl⟩
    · rw [if_neg hx] at e
      cases e
  · cases e
    obtain ⟨a, vs, rfl, h1, h2⟩ := h.tup
    refine .inr (.inl ⟨vs, sqT_same sS h1, ?_⟩)
    cases h2 <;> rfl
  · cases e
    obtain ⟨a, vs, rfl, h1, h2⟩ := h.lst sS
    refine .inl ⟨vs, .of h1, ?_⟩
    cases h2 <;> rfl
  · cases e
    obtain ⟨a, rfl, h1⟩ := h.scr sS
    refine .inl ⟨_, h1, ?_⟩
    rename_i ns
    cases ns <;> rfl
end
section
variable {X : Cx} {T : Tab} {a b : Expr} {fa fb : EF} {p q : BF} {pos : Pos} {rest : List Expr}
theorem tt_B (h : PE X a (SE X.K T fa)) (he : ∀ whole, isTrue a X.env whole = (do let v ← whole; standAt a.pos; holding [v] (truthy v)) := by intro _; rfl) : PT X a (ST X.K T (bB fa)) := (pt_val h he).imp fun σ H Q ⟨π, F, S, ρ, b, ρ', R, e, q⟩ => by
  refine SE.data R e fun S' H' ρ1 v d s R' rd hk => ?_
  cases d <;> first | (cases hk; done) | skip
  cases hk
  cases rd.bl
  exact ⟨_, rfl, q S' H' s R'⟩
/-- a comparison as a test -/
theorem tt_cmp {op : CmpOp} {r : R2} {g : D → D → Res RV} (ho : OpR X (compareOp op) r) (hg : Op2 X.K T r g) (ha : PE X a (SE X.K T fa)) (hb : PE X b (SE X.K T fb)) (hm : behindInMarks op b = false) : PT X (.Compare a [op] [b] pos) (ST X.K T (bB (e2 g fa fb))) := (pt_cmpR ho ha hb hm).imp fun σ H Q ⟨π, F, S, ρ, b, ρ', R, e, q⟩ => by
  have h : SE X.K T (e2 g fa fb) σ H fun x H' => ∃ k, x = .bl k ∧ Q k H' := by
    refine SE.data R e fun S' H' ρ1 v d s R' rd hk => ?_
    cases d <;> first | (cases hk; done) | skip
    cases hk
    cases rd.bl
    exact ⟨_, rfl, q S' H' s R'⟩
  exact h.e2 hg
theorem tt_T (h : PE X a (SE X.K T fa)) (he : ∀ whole, isTrue a X.env whole = (do let v ← whole; standAt a.pos; holding [v] (truthy v)) := by intro _; rfl) : PT X a (ST X.K T (bT fa)) := (pt_truth h he).imp fun σ H Q ⟨π, F, S, ρ, b, ρ', R, e, q⟩ => by
  refine SE.data R e fun S' H' ρ1 v d s R' rd hk => ?_
  obtain ⟨b', e1, hk⟩ := Res.bind_eq hk
  cases hk
  exact ⟨_, rd.tru R'.sS (Res.of_eq e1), q S' H' s R'⟩
theorem ST.bind {K : PySem.W.Frag} {p : BF} {k : Bool → BF} {σ : L2.St} {H : Hp} {Q : Bool → Hp → Prop} (q : ST K T (getB p k) σ H Q) : ST K T p σ H fun b H1 => ST K T (k b) σ H1 Q := by
  obtain ⟨π, F, S, ρ, b, ρ', R, e, q⟩ := q
  obtain ⟨⟨b', ρ1⟩, e1, e⟩ := Res.bind_eq e
  exact ⟨π, F, S, ρ, b', ρ1, R, e1, fun S1 H1 s1 R1 => ⟨π, F, S1, ρ1, b, ρ', R1, e, fun S' H' s' R' => q S' H' (s1.trans s') R'⟩⟩
theorem ST.ok {K : PySem.W.Frag} {b : Bool} {σ : L2.St} {H : Hp} {Q : Bool → Hp → Prop} (q : ST K T (fun ρ => .ok (b, ρ)) σ H Q) : Q b H := by
  obtain ⟨π, F, S, ρ, b, ρ', R, e, q⟩ := q
  cases e
  exact q S H (Same.refl S) R
theorem ST.mono {K : PySem.W.Frag} {p : BF} {σ : L2.St} {H : Hp} {Q Q' : Bool → Hp → Prop} (q : ST K T p σ H Q) (h : ∀ b H, Q b H → Q' b H) : ST K T p σ H Q' := by
  obtain ⟨π, F, S, ρ, b, ρ', R, e, q⟩ := q
  exact ⟨π, F, S, ρ, b, ρ', R, e, fun S' H' s' R' => h _ _ (q S' H' s' R')⟩
theorem tw_and1 (ha : PT X a (ST X.K T p)) : PW X (.BoolOp .And [a] pos) (ST X.K T p) := pw_and1 ha
theorem tw_or1 (ha : PT X a (ST X.K T p)) : PW X (.BoolOp .Or [a] pos) (ST X.K T p) := pw_or1 ha
theorem tw_and (ha : PT X a (ST X.K T p)) (hb : PW X (.BoolOp .And (b :: rest) pos) (ST X.K T q)) : PW X (.BoolOp .And (a :: b :: rest) pos) (ST X.K T (bAnd p q)) := (pw_and ha hb).imp fun σ H Q h => by
  refine (ST.bind h).mono fun b H1 z => ?_
  cases b with
  | true => exact z
  | false => exact ST.ok z
theorem tw_or (ha : PT X a (ST X.K T p)) (hb : PW X (.BoolOp .Or (b :: rest) pos) (ST X.K T q)) : PW X (.BoolOp .Or (a :: b :: rest) pos) (ST X.K T (bOr p q)) := (pw_or ha hb).imp fun σ H Q h => by
  refine (ST.bind h).mono fun b H1 z => ?_
  cases b with
  | true => exact ST.ok z
  | false => exact z
theorem tt_not (ha : PT X a (ST X.K T p)) : PT X (.UnaryOp .Not a pos) (ST X.K T (bNot p)) := (pt_not ha).imp fun σ H Q h => by
  exact (ST.bind h).mono fun b H1 z => ST.ok z
/-- a test, then an expression -/
theorem ST.thenE {K : PySem.W.Frag} {p : BF} {k : Bool → EF} {σ : L2.St} {H : Hp} {Q : VK} (q : SE K T (getB p k) σ H Q) : ST K T p σ H fun b H1 => SE K T (k b) σ H1 Q := by
  obtain ⟨π, F, S, ρ, r, ρ', R, e, q⟩ := q
  obtain ⟨⟨b', ρ1⟩, e1, e⟩ := Res.bind_eq e
  exact ⟨π, F, S, ρ, b', ρ1, R, e1, fun S1 H1 s1 R1 => ⟨π, F, S1, ρ1, r, ρ', R1, e, fun S' H' v s' R' => q S' H' v (s1.trans s') R'⟩⟩
theorem ee_if {c : Expr} (hc : PT X c (ST X.K T p)) (ha : PE X a (SE X.K T fa)) (hb : PE X b (SE X.K T fb)) : PE X (.IfExp c a b pos) (SE X.K T (eIf p fa fb)) := (pe_ifExp hc ha hb).imp fun σ H Q h => by
  refine (ST.thenE h).mono fun b H1 z => ?_
  cases b with
  | true => exact z
  | false => exact z
theorem ee_one {op} (ha : PE X a (SE X.K T fa)) : PE X (.BoolOp op [a] pos) (SE X.K T fa) := pe_one ha
theorem ee_and (ha : PE X a (SE X.K T fa)) (hb : PE X (.BoolOp .And (b :: rest) pos) (SE X.K T fb)) : PE X (.BoolOp .And (a :: b :: rest) pos) (SE X.K T (eAnd fa fb)) := (pe_and ha hb).imp fun σ H Q ⟨π, F, S, ρ, r, ρ', R, e, q⟩ => by
  refine SE.data R e fun S' H' ρ1 v d s R' rd hk => ?_
  cases d <;> first | (cases hk; done) | skip
  rename_i c
  cases rd.bl
  refine ⟨c, rfl, ?_⟩
  cases c with
  | true => exact ⟨π, F, S', ρ1, r, ρ', R', hk, fun S'' H'' w s'' R'' => q S'' H'' w (s.trans s'') R''⟩
  | false => cases hk; exact q S' H' _ s R' (.bl false)
theorem ee_or (ha : PE X a (SE X.K T fa)) (hb : PE X (.BoolOp .Or (b :: rest) pos) (SE X.K T fb)) : PE X (.BoolOp .Or (a :: b :: rest) pos) (SE X.K T (eOr fa fb)) := (pe_or ha hb).imp fun σ H Q ⟨π, F, S, ρ, r, ρ', R, e, q⟩ => by
  refine SE.data R e fun S' H' ρ1 v d s R' rd hk => ?_
  cases d <;> first | (cases hk; done) | skip
  rename_i c
  cases rd.bl
  refine ⟨c, rfl, ?_⟩
  cases c with
  | false => exact ⟨π, F, S', ρ1, r, ρ', R', hk, fun S'' H'' w s'' R'' => q S'' H'' w (s.trans s'') R''⟩
  | true => cases hk; exact q S' H' _ s R' (.bl true)
theorem ee_not (ha : PE X a (SE X.K T fa)) : PE X (.UnaryOp .Not a pos) (SE X.K T (eNot fa)) := (pe_not ha).imp fun σ H Q ⟨π, F, S, ρ, r, ρ', R, e, q⟩ => by
  refine SE.data R e fun S' H' ρ1 v d s R' rd hk => ?_
  cases d <;> first | (cases hk; done) | skip
  rename_i c
  cases rd.bl
  cases hk
  exact ⟨c, rfl, q S' H' _ s R' (.bl _)⟩
end

/-! ### a chain of two -/
def eChain (g g' : D → D → Res RV) (fa fb fc : EF) : EF := fun ρ => (fa ρ).bind fun (x, ρ1) => (fb ρ1).bind fun (y, ρ2) => (Res.of (deref ρ2 x.hold)).bind fun d => (Res.of (deref ρ2 y.hold)).bind fun e => (g d e).bind fun r => match r with
  | .fro (.bl b) => if b = true then (fc ρ2).bind fun (z, ρ3) => (Res.of (deref ρ3 y.hold)).bind fun e => (Res.of (deref ρ3 z.hold)).bind fun h => (g' e h).bind fun r => .ok (r, ρ3) else .ok (.fro (.bl false), ρ2)
  | _ => .bad
section
variable {K : PySem.W.Frag} {T : Tab}
theorem SE.chain {fa fb fc : EF} {g g' : D → D → Res RV} {r r' : R2} (h : Op2 K T r g) (h' : Op2 K T r' g') {σ : L2.St} {H : Hp} {Q : VK} (q : SE K T (eChain g g' fa fb fc) σ H Q) : tChain r r' (SE K T fa) (SE K T fb) (SE K T fc) σ H Q := by
  obtain ⟨π, F, S, ρ, res, ρ', R, e, q⟩ := q
  obtain ⟨⟨x, ρ1⟩, ea, e⟩ := Res.bind_eq e
  obtain ⟨⟨y, ρ2⟩, eb, e⟩ := Res.bind_eq e
  obtain ⟨d, ed, e⟩ := Res.bind_eq e
  obtain ⟨d', ed', e⟩ := Res.bind_eq e
  obtain ⟨res', eg, e⟩ := Res.bind_eq e
  refine ⟨π, F, S, ρ, x, ρ1, R, ea, fun S1 H1 v s1 R1 rv => ?_⟩
  obtain ⟨S2, s2, R2, hv⟩ := rv.hold R1
  refine ⟨π, F, S2, ρ1, y, ρ2, R2, eb, fun S3 H3 u s3 R3 ru => ?_⟩
  obtain ⟨S4, s4, R4, hu⟩ := ru.hold R3
  refine h π F S4 ρ2 σ H3 v u d d' res' _ R4 ((hv.mono (s3.trans s4)).rd R4 (Res.of_eq ed)) (hu.rd R4 (Res.of_eq ed')) eg fun S5 H5 w s5 R5 rw' => ?_
  cases res' <;> first | (cases e; done) | skip
  rename_i z
  cases z <;> first | (cases e; done) | skip
  rename_i c
  cases (show DR K T S5 w (.bl c) from rw')
  refine ⟨c, rfl, ?_⟩
  cases c with
  | false =>
    cases e
    exact q S5 H5 _ (s1.trans (s2.trans (s3.trans (s4.trans s5)))) R5 (.bl false)
  | true =>
    obtain ⟨⟨z, ρ3⟩, ec, e⟩ := Res.bind_eq e
    obtain ⟨d1, ed1, e⟩ := Res.bind_eq e
    obtain ⟨d2, ed2, e⟩ := Res.bind_eq e
    obtain ⟨res2, eg2, e⟩ := Res.bind_eq e
    cases e
    refine ⟨π, F, S5, ρ2, z, _, R5, ec, fun S6 H6 t s6 R6 rt => ?_⟩
    obtain ⟨S7, s7, R7, ht⟩ := rt.hold R6
    exact h' π F S7 _ σ H6 u t d1 d2 res Q R7 ((hu.mono (s5.trans (s6.trans s7))).rd R7 (Res.of_eq ed1)) (ht.rd R7 (Res.of_eq ed2)) eg2 fun S' H' w s' R' rw' => q S' H' w (s1.trans (s2.trans (s3.trans (s4.trans (s5.trans (s6.trans (s7.trans s'))))))) R' rw'
end
section
variable {X : Cx} {T : Tab} {a b c : Expr} {fa fb fc : EF} {pos : Pos}
theorem ee_chain {op op' : CmpOp} {r r' : R2} {g g' : D → D → Res RV} (ho : OpR X (compareOp op) r) (hg : Op2 X.K T r g) (ho' : OpR X (compareOp op') r') (hg' : Op2 X.K T r' g') (ha : PE X a (SE X.K T fa)) (hb : PE X b (SE X.K T fb)) (hc : PE X c (SE X.K T fc))
    (hm : lastMarks [op, op'] [b, c] = false := by with_unfolding_all rfl) : PE X (.Compare a [op, op'] [b, c] pos) (SE X.K T (eChain g g' fa fb fc)) := (pe_chain ho ho' ha hb hc hm).imp fun _ _ _ q => SE.chain hg hg' q
theorem tt_chain {op op' : CmpOp} {r r' : R2} {g g' : D → D → Res RV} (ho : OpR X (compareOp op) r) (hg : Op2 X.K T r g) (ho' : OpR X (compareOp op') r') (hg' : Op2 X.K T r' g') (ha : PE X a (SE X.K T fa)) (hb : PE X b (SE X.K T fb)) (hc : PE X c (SE X.K T fc))
    (hm : lastMarks [op, op'] [b, c] = false := by with_unfolding_all rfl) : PT X (.Compare a [op, op'] [b, c] pos) (ST X.K T (bB (eChain g g' fa fb fc))) := (pt_chain ho ho' ha hb hc hm).imp fun σ H Q ⟨π, F, S, ρ, b, ρ', R, e, q⟩ => by
  have h : SE X.K T (eChain g g' fa fb fc) σ H fun x H' => ∃ k, x = .bl k ∧ Q k H' := by
    refine SE.data R e fun S' H' ρ1 v d s R' rd hk => ?_
    cases d <;> first | (cases hk; done) | skip
    cases hk
    cases rd.bl
    exact ⟨_, rfl, q S' H' s R'⟩
  exact SE.chain hg hg' h
theorem ee_lele (ha : PE X a (SE X.K T fa)) (hb : PE X b (SE X.K T fb)) (hc : PE X c (SE X.K T fc)) (hm : lastMarks [.LtE, .LtE] [b, c] = false := by with_unfolding_all rfl) : PE X (.Compare a [.LtE, .LtE] [b, c] pos) (SE X.K T (eChain oLe oLe fa fb fc)) := ee_chain op_le op_rB0 op_le op_rB0 ha hb hc hm
theorem tt_lele (ha : PE X a (SE X.K T fa)) (hb : PE X b (SE X.K T fb)) (hc : PE X c (SE X.K T fc)) (hm : lastMarks [.LtE, .LtE] [b, c] = false := by with_unfolding_all rfl) : PT X (.Compare a [.LtE, .LtE] [b, c] pos) (ST X.K T (bB (eChain oLe oLe fa fb fc))) := tt_chain op_le op_rB0 op_le op_rB0 ha hb hc hm
theorem tt_lt (ha : PE X a (SE X.K T fa)) (hb : PE X b (SE X.K T fb)) : PT X (.Compare a [.Lt] [b] pos) (ST X.K T (bB (e2 oLt fa fb))) := tt_cmp op_lt op_rB0 ha hb (nomark _)
theorem tt_le (ha : PE X a (SE X.K T fa)) (hb : PE X b (SE X.K T fb)) : PT X (.Compare a [.LtE] [b] pos) (ST X.K T (bB (e2 oLe fa fb))) := tt_cmp op_le op_rB0 ha hb (nomark _)
theorem tt_gt (ha : PE X a (SE X.K T fa)) (hb : PE X b (SE X.K T fb)) : PT X (.Compare a [.Gt] [b] pos) (ST X.K T (bB (e2 oGt fa fb))) := tt_cmp op_gt op_rB0 ha hb (nomark _)
theorem tt_ge (ha : PE X a (SE X.K T fa)) (hb : PE X b (SE X.K T fb)) : PT X (.Compare a [.GtE] [b] pos) (ST X.K T (bB (e2 oGe fa fb))) := tt_cmp op_ge op_rB0 ha hb (nomark _)
theorem tt_eq (hu : X.A.units + 64 < cLine) (ha : PE X a (SE X.K T fa)) (hb : PE X b (SE X.K T fb)) : PT X (.Compare a [.Eq] [b] pos) (ST X.K T (bB (e2 oEq fa fb))) := tt_cmp (op_eqD hu) op_rEqD ha hb (nomark _)
theorem tt_ne (hu : X.A.units + 64 < cLine) (ha : PE X a (SE X.K T fa)) (hb : PE X b (SE X.K T fb)) : PT X (.Compare a [.NotEq] [b] pos) (ST X.K T (bB (e2 oNe fa fb))) := tt_cmp (op_neD hu) op_rNeD ha hb (nomark _)
theorem tt_in (ha : PE X a (SE X.K T fa)) (hb : PE X b (SE X.K T fb)) (hm : behindInMarks .In b = false) : PT X (.Compare a [.In] [b] pos) (ST X.K T (bB (e2 (oIn false) fa fb))) := tt_cmp op_in_seq op_rIn ha hb hm
theorem tt_notIn (ha : PE X a (SE X.K T fa)) (hb : PE X b (SE X.K T fb)) (hm : behindInMarks .NotIn b = false) : PT X (.Compare a [.NotIn] [b] pos) (ST X.K T (bB (e2 (oIn true) fa fb))) := tt_cmp op_notIn_seq op_rIn ha hb hm
theorem tt_isN (ha : PE X a (SE X.K T fa)) (hb : PE X b (SE X.K T fb)) : PT X (.Compare a [.Is] [b] pos) (ST X.K T (bB (e2 oIsN fa fb))) := tt_cmp op_isN (by
  intro π F S ρ σ H x y d e res Q R hx hy hg q
  cases e <;> first | (cases hg; done) | skip
  cases hg
  exact ⟨hy.non, by rw [hx.isN]; exact q S H _ (Same.refl S) R (.bl _)⟩) ha hb (nomark _)
theorem tt_notN (ha : PE X a (SE X.K T fa)) (hb : PE X b (SE X.K T fb)) : PT X (.Compare a [.IsNot] [b] pos) (ST X.K T (bB (e2 oNotN fa fb))) := tt_cmp op_notN (by
  intro π F S ρ σ H x y d e res Q R hx hy hg q
  cases e <;> first | (cases hg; done) | skip
  cases hg
  exact ⟨hy.non, by rw [hx.isN]; exact q S H _ (Same.refl S) R (.bl _)⟩) ha hb (nomark _)
end

/-! ### argument lists -/
def aNil : AF := fun ρ => .ok ([], ρ)
def aCons (f : EF) (g : AF) : AF := fun ρ => (f ρ).bind fun (x, ρ1) => (g ρ1).bind fun (xs, ρ2) => .ok (x.hold :: xs, ρ2)
def aStar (f : EF) (g : AF) : AF := getD f fun d ρ1 => (Res.of d.items).bind fun ds => (g ρ1).bind fun p => .ok (ds.map .fro ++ p.1, p.2)
/-- data of held results -/
def frozen : List RV → Option (List D)
  | [] => some []
  | .fro d :: r => (frozen r).map (d :: ·)
  | _ :: _ => none
def derefs (ρ : Env) : List RV → Option (List D)
  | [] => some []
  | r :: rs => match deref ρ r, derefs ρ rs with
    | some d, some ds => some (d :: ds)
    | _, _ => none
section
variable {K : PySem.W.Frag} {T : Tab} {π σ : L2.St} {F S H : Hp} {ρ : Env}
theorem HeldAll.frozen : ∀ {vs : List V} {rs : List RV} {ds : List D}, HeldAll K T S σ vs rs → frozen rs = some ds → DRs K T S vs ds
  | _, _, _, .nil, e => by cases e; exact .nil
  | v :: vs, r :: rs, ds, .cons h q, e => by
    cases r with
    | fro d =>
      unfold Dt.frozen at e
      obtain ⟨ds', e1, rfl⟩ := Option.map_eq_some_iff.mp e
      exact .cons h (HeldAll.frozen q e1)
    | own d => exact h.elim
    | bor i => cases e
inductive RDs (K : PySem.W.Frag) (T : Tab) (S H : Hp) : List V → List D → Prop
  | nil : RDs K T S H [] []
  | cons {v : V} {vs : List V} {d : D} {ds : List D} : RD K T S H v d → RDs K T S H vs ds → RDs K T S H (v :: vs) (d :: ds)
theorem HeldAll.rds (R : Rel K T π F S ρ σ H) : ∀ {vs : List V} {rs : List RV} {ds : List D}, HeldAll K T S σ vs rs → derefs ρ rs = some ds → RDs K T S H vs ds
  | _, _, _, .nil, e => by cases e; exact .nil
  | v :: vs, r :: rs, ds, .cons h q, e => by
    unfold derefs at e
    split at e
    · rename_i d ds' e1 e2
      cases e
      exact .cons (h.rd R e1) (HeldAll.rds R q e2)
    · cases e
theorem HeldAll.fros : ∀ {vs : List V} {ds : List D}, DRs K T S vs ds → HeldAll K T S σ vs (ds.map .fro)
  | _, _, .nil => .nil
  | _, _, .cons h r => .cons h (HeldAll.fros r)
theorem HeldAll.append : ∀ {vs ws : List V} {rs qs : List RV}, HeldAll K T S σ vs rs → HeldAll K T S σ ws qs → HeldAll K T S σ (vs ++ ws) (rs ++ qs)
  | _, _, _, _, .nil, r => r
  | _, _, _, _, .cons h q, r => .cons h (HeldAll.append q r)
end
section
variable {X : Cx} {T : Tab} {e : Expr} {es : List Expr} {f : EF} {g : AF} {pos : Pos}
theorem aa_nil : PA X [] (SA X.K T aNil) := pa_nil.imp fun σ H Q ⟨π, F, S, ρ, rs, ρ', R, e, q⟩ => by
  cases e
  exact q S H [] (Same.refl S) R .nil
theorem aa_cons (ha : PE X e (SE X.K T f)) (hr : PA X es (SA X.K T g)) (hs : starEach (e :: es) X.env = (false, eval e X.env) :: starEach es X.env := by rfl) : PA X (e :: es) (SA X.K T (aCons f g)) := (pa_cons ha hr hs).imp fun σ H Q ⟨π, F, S, ρ, rs, ρ', R, e, q⟩ => by
  obtain ⟨⟨x, ρ1⟩, ea, e⟩ := Res.bind_eq e
  obtain ⟨⟨xs, ρ2⟩, eb, e⟩ := Res.bind_eq e
  cases e
  refine ⟨π, F, S, ρ, x, ρ1, R, ea, fun S1 H1 v s1 R1 rv => ?_⟩
  obtain ⟨S2, s2, R2, hv⟩ := rv.hold R1
  exact ⟨π, F, S2, ρ1, xs, _, R2, eb, fun S' H' vs s' R' hvs => q S' H' (v :: vs) (s1.trans (s2.trans s')) R' (.cons (hv.mono s') hvs)⟩
theorem aa_star {sp : Pos} (ha : PE X e (SE X.K T f)) (hr : PA X es (SA X.K T g)) (hs : starEach (.Starred e sp :: es) X.env = (true, eval e X.env) :: starEach es X.env := by rfl) : PA X (.Starred e sp :: es) (SA X.K T (aStar f g)) := (StX.pa_star ha hr hs).imp fun σ H Q ⟨π, F, S, ρ, rs, ρ', R, e, q⟩ => by
  refine SE.data R e fun S' H' ρ1 v d s R' rd hk => ?_
  obtain ⟨ds, ed, hk⟩ := Res.bind_eq hk
  obtain ⟨⟨xs, ρ2⟩, eb, hk⟩ := Res.bind_eq hk
  cases hk
  obtain ⟨a, vs, rfl, h1, h2⟩ := rd.items R'.sS (Res.of_eq ed)
  exact ⟨a, vs, rfl, h1.elim .inr .inl, π, F, S', ρ1, xs, _, R', eb, fun S'' H'' ws s'' R'' hws => q S'' H'' (vs ++ ws) (s.trans s'') R'' ((HeldAll.fros (h2.mono s'')).append hws)⟩
end

/-! ### displays -/
def eTup (g : AF) : EF := fun ρ => (g ρ).bind fun (rs, ρ1) => (Res.of (frozen rs)).bind fun ds => if ds.length ≤ sizeLine then .ok (.fro (.tup ds), ρ1) else .bad
def eLst (g : AF) : EF := fun ρ => (g ρ).bind fun (rs, ρ1) => (Res.of (frozen rs)).bind fun ds => if ds.length ≤ sizeLine then .ok (.own (.lst ds), ρ1) else .bad
section
variable {K : PySem.W.Frag} {T : Tab} {π σ : L2.St} {F S H : Hp} {ρ : Env} {p : Addr} {vs : List V} {ds : List D}
/-- a new tuple -/
theorem new_tup (R : Rel K T π F S ρ σ H) (h : DRs K T S vs ds) (hp : H p = none) : Same S (upd S p (.tup vs)) ∧ Rel K T π F (upd S p (.tup vs)) ρ σ (upd H p (.tup vs)) ∧ RVR K T F (upd S p (.tup vs)) (upd H p (.tup vs)) ρ σ (.ref p) (.fro (.tup ds)) := by
  have s := same_upd (o := HO.tup vs) (same_none R.sS hp)
  exact ⟨s, R.allocF hp (fun ps z => by cases z), .tup (.of upd_same) (h.mono s)⟩
theorem new_lst (R : Rel K T π F S ρ σ H) (h : DRs K T S vs ds) (hp : H p = none) : Rel K T π F S ρ σ (upd H p (.lst vs)) ∧ RVR K T F S (upd H p (.lst vs)) ρ σ (.ref p) (.own (.lst ds)) :=
  ⟨R.alloc hp, p, rfl, ⟨same_none R.sS hp, same_none R.sF hp, vs, upd_same, h⟩, R.apart hp⟩
end
section
variable {X : Cx} {T : Tab} {es : List Expr} {g : AF} {pos : Pos}
theorem ee_tup {k} (h : PA X es (SA X.K T g)) : PE X (.Tuple es k pos) (SE X.K T (eTup g)) := (pe_tup h).imp fun σ H Q ⟨π, F, S, ρ, r, ρ', R, e, q⟩ => by
  obtain ⟨⟨rs, ρ1⟩, ea, e⟩ := Res.bind_eq e
  obtain ⟨ds, ed, e⟩ := Res.bind_eq e
  split at e
  · rename_i hl
    cases e
    refine ⟨π, F, S, ρ, rs, _, R, ea, fun S1 H1 vs s1 R1 hv => ?_⟩
    have hd := hv.frozen (Res.of_eq ed)
    refine ⟨by rw [hd.length]; exact hl, fun p hp => ?_⟩
    obtain ⟨s2, R2, rv⟩ := new_tup R1 hd hp
    exact q _ _ _ (s1.trans s2) R2 rv
  · cases e
theorem ee_lst (h : PA X es (SA X.K T g)) : PE X (.List es pos) (SE X.K T (eLst g)) := (pe_lst h).imp fun σ H Q ⟨π, F, S, ρ, r, ρ', R, e, q⟩ => by
  obtain ⟨⟨rs, ρ1⟩, ea, e⟩ := Res.bind_eq e
  obtain ⟨ds, ed, e⟩ := Res.bind_eq e
  split at e
  · rename_i hl
    cases e
    refine ⟨π, F, S, ρ, rs, _, R, ea, fun S1 H1 vs s1 R1 hv => ?_⟩
    have hd := hv.frozen (Res.of_eq ed)
    refine ⟨by rw [hd.length]; exact hl, fun p hp => ?_⟩
    obtain ⟨R2, rv⟩ := new_lst R1 hd hp
    exact q _ _ _ s1 R2 rv
  · cases e
end

/-! ### built-in calls -/
/-- a built-in call by data -/
def eCB (g : List D → Res RV) (f : AF) : EF := fun ρ => (f ρ).bind fun (rs, ρ1) => (Res.of (derefs ρ1 rs)).bind fun ds => (g ds).bind fun r => .ok (r, ρ1)
def OpC (K : PySem.W.Frag) (T : Tab) (r : List V → Hp → VK → Prop) (g : List D → Res RV) : Prop :=
  ∀ π F S ρ σ H xs ds res Q, Rel K T π F S ρ σ H → RDs K T S H xs ds → g ds = .ok res → (∀ S' H' v, Same S S' → Rel K T π F S' ρ σ H' → RVR K T F S' H' ρ σ v res → Q v H') → r xs H Q
theorem SA.cb {K : PySem.W.Frag} {T : Tab} {f : AF} {g : List D → Res RV} {r : List V → Hp → VK → Prop} (h : OpC K T r g) {σ : L2.St} {H : Hp} {Q : VK} (q : SE K T (eCB g f) σ H Q) : SA K T f σ H fun vs H1 => r vs H1 Q := by
  obtain ⟨π, F, S, ρ, res, ρ', R, e, q⟩ := q
  obtain ⟨⟨rs, ρ1⟩, ea, e⟩ := Res.bind_eq e
  obtain ⟨ds, ed, e⟩ := Res.bind_eq e
  obtain ⟨res', eg, e⟩ := Res.bind_eq e
  cases e
  exact ⟨π, F, S, ρ, rs, _, R, ea, fun S1 H1 vs s1 R1 hv => h π F S1 _ σ H1 vs ds res Q R1 (hv.rds R1 (Res.of_eq ed)) eg fun S' H' v s' R' rv => q S' H' v (s1.trans s') R' rv⟩
section
variable {X : Cx} {T : Tab} {x id Ty : Str} {bid Tn : String} {p pos : Pos} {e : Expr} {es : List Expr} {f : AF} {r : List V → Hp → VK → Prop} {g : List D → Res RV}
theorem ee_callB (hc : CallR X (.builtin bid) r) (ho : OpC X.K T r g) (hg : Gl X x) (hm : X.mg x = none) (hv : bootBuiltins x = some (.builtin bid)) (ha : PA X (e :: es) (SA X.K T f)) (hn : x ≠ "__name__" := by decide) (hdb : (x == ("__debug__" : Str)) = false := by decide)
    (he : starEach (e :: es) X.env = (false, eval e X.env) :: starEach es X.env := by rfl) (hpl : (backTo pos (starEach es X.env)).any (·.1) = false := by rfl) : PE X (.Call (.Name x p) (e :: es) [] pos) (SE X.K T (eCB g f)) := (pe_callB hc hg hm hv ha hn hdb he hpl).imp fun _ _ _ q => SA.cb ho q
theorem ee_callTy (hc : CallR X (.type Tn) r) (ho : OpC X.K T r g) (hg : Gl X x) (hm : X.mg x = none) (hv : bootBuiltins x = some (.type Tn)) (ha : PA X (e :: es) (SA X.K T f)) (hn : x ≠ "__name__" := by decide) (hdb : (x == ("__debug__" : Str)) = false := by decide)
    (he : starEach (e :: es) X.env = (false, eval e X.env) :: starEach es X.env := by rfl) (hpl : (backTo pos (starEach es X.env)).any (·.1) = false := by rfl) : PE X (.Call (.Name x p) (e :: es) [] pos) (SE X.K T (eCB g f)) := (pe_callTy hc hg hm hv ha hn hdb he hpl).imp fun _ _ _ q => SA.cb ho q
end
def c1 (g : D → Res RV) : List D → Res RV
  | [d] => g d
  | _ => .bad
def c2 (g : D → D → Res RV) : List D → Res RV
  | [d, e] => g d e
  | _ => .bad
def oLen : D → Res RV := fun d => (Res.of d.items).bind fun xs => .ok (.fro (.int xs.length))
def oIntOf : D → Res RV
  | .int i => .ok (.fro (.int i))
  | .bl b => .ok (.fro (.int (if b then 1 else 0)))
  | _ => .bad
def oMin2 : D → D → Res RV := gInt fun i j => .ok (.fro (.int (if j < i then j else i)))
def oMax2 : D → D → Res RV := gInt fun i j => .ok (.fro (.int (if j > i then j else i)))
def oAbs : D → Res RV
  | .int i => .ok (.fro (.int (if i < 0 then -i else i)))
  | _ => .bad
def oListOf : D → Res RV := fun d => (Res.of d.items).bind fun xs => .ok (.own (.lst xs))
def oTupOf : D → Res RV
  | .lst xs => .ok (.fro (.tup xs))
  | .tup xs => .ok (.fro (.tup xs))
  | _ => .bad
section
variable {K : PySem.W.Frag} {T : Tab} {S H : Hp}
theorem RDs.one {vs : List V} {d : D} (h : RDs K T S H vs [d]) : ∃ v, vs = [v] ∧ RD K T S H v d := by
  cases h with
  | cons h r => cases r; exact ⟨_, rfl, h⟩
theorem RDs.two {vs : List V} {d e : D} (h : RDs K T S H vs [d, e]) : ∃ v w, vs = [v, w] ∧ RD K T S H v d ∧ RD K T S H w e := by
  cases h with
  | cons h r =>
    obtain ⟨w, rfl, h'⟩ := r.one
    exact ⟨_, w, rfl, h, h'⟩
theorem opC1 {r : List V → Hp → VK → Prop} {g : D → Res RV} (h : Op1 K T (fun x H Q => r [x] H Q) g) : OpC K T r (c1 g) := by
  intro π F S ρ σ H xs ds res Q R hx hg q
  match ds, hx, hg with
  | [d], hx, hg =>
    obtain ⟨v, rfl, hv⟩ := hx.one
    exact h π F S ρ σ H v d res Q R hv hg q
theorem opC2 {r : List V → Hp → VK → Prop} {g : D → D → Res RV} (h : Op2 K T (fun x y H Q => r [x, y] H Q) g) : OpC K T r (c2 g) := by
  intro π F S ρ σ H xs ds res Q R hx hg q
  match ds, hx, hg with
  | [d, e], hx, hg =>
    obtain ⟨v, w, rfl, hv, hw⟩ := hx.two
    exact h π F S ρ σ H v w d e res Q R hv hw hg q
end
section
variable {X : Cx} {T : Tab} {x : Str} {p pos : Pos} {a b : Expr} {es : List Expr} {f : AF}
theorem oc_len : OpC X.K T (fun xs H Q => ∃ p ys, xs = [.ref p] ∧ (SqL X.K H p ys ∨ SqT X.K H p ys) ∧ Q (.int ys.length) H) (c1 oLen) := opC1 (by
  intro π F S ρ σ H x d res Q R hx hg q
  obtain ⟨xs, e1, hg⟩ := Res.bind_eq hg
  cases hg
  obtain ⟨a, vs, rfl, h1, h2⟩ := hx.items R.sS (Res.of_eq e1)
  exact ⟨a, vs, rfl, h1, by rw [h2.length]; exact q S H _ (Same.refl S) R (.int _)⟩)
theorem oc_int : OpC X.K T (fun xs H Q => (∃ i, xs = [.int i] ∧ Q (.int i) H) ∨ ∃ k, xs = [.bl k] ∧ Q (.int (if k then 1 else 0)) H) (c1 oIntOf) := opC1 (by
  intro π F S ρ σ H x d res Q R hx hg q
  cases d <;> first | (cases hg; done) | skip
  · cases hg
    cases hx.bl
    exact .inr ⟨_, rfl, q S H _ (Same.refl S) R (.int _)⟩
  · cases hg
    cases hx.int
    exact .inl ⟨_, rfl, q S H _ (Same.refl S) R (.int _)⟩)
theorem oc_min2 : OpC X.K T (fun xs H Q => ∃ i j, xs = [.int i, .int j] ∧ Q (.int (if j < i then j else i)) H) (c2 oMin2) := opC2 (by
  intro π F S ρ σ H x y d e res Q R hx hy hg q
  cases d <;> first | (cases hg; done) | skip
  cases e <;> first | (cases hg; done) | skip
  cases hg
  cases hx.int
  cases hy.int
  exact ⟨_, _, rfl, q S H _ (Same.refl S) R (.int _)⟩)
theorem oc_max2 : OpC X.K T (fun xs H Q => ∃ i j, xs = [.int i, .int j] ∧ Q (.int (if j > i then j else i)) H) (c2 oMax2) := opC2 (by
  intro π F S ρ σ H x y d e res Q R hx hy hg q
  cases d <;> first | (cases hg; done) | skip
  cases e <;> first | (cases hg; done) | skip
  cases hg
  cases hx.int
  cases hy.int
  exact ⟨_, _, rfl, q S H _ (Same.refl S) R (.int _)⟩)
theorem oc_list : OpC X.K T (fun xs H Q => ∃ p ys, xs = [.ref p] ∧ (SqL X.K H p ys ∨ SqT X.K H p ys) ∧ ∀ l, H l = none → Q (.ref l) (upd H l (.lst ys))) (c1 oListOf) := opC1 (by
  intro π F S ρ σ H x d res Q R hx hg q
  obtain ⟨xs, e1, hg⟩ := Res.bind_eq hg
  cases hg
  obtain ⟨a, vs, rfl, h1, h2⟩ := hx.items R.sS (Res.of_eq e1)
  refine ⟨a, vs, rfl, h1, fun l hl => ?_⟩
  obtain ⟨R2, rv⟩ := new_lst R h2 hl
  exact q _ _ _ (Same.refl S) R2 rv)
theorem oc_tuple : OpC X.K T (fun xs H Q => ∃ p ys, xs = [.ref p] ∧ ((SqL X.K H p ys ∧ ∀ l, H l = none → Q (.ref l) (upd H l (.tup ys))) ∨ (SqT X.K H p ys ∧ Q (.ref p) H))) (c1 oTupOf) := opC1 (by
  intro π F S ρ σ H x d res Q R hx hg q
  cases d <;> first | (cases hg; done) | skip
  · cases hg
    obtain ⟨a, vs, rfl, h1, h2⟩ := hx.tup
    exact ⟨a, vs, rfl, .inr ⟨sqT_same R.sS h1, q S H _ (Same.refl S) R (.tup h1 h2)⟩⟩
  · cases hg
    obtain ⟨a, vs, rfl, h1, h2⟩ := hx.lst R.sS
    refine ⟨a, vs, rfl, .inl ⟨.of h1, fun l hl => ?_⟩⟩
    obtain ⟨s2, R2, rv⟩ := new_tup R h2 hl
    exact q _ _ _ s2 R2 rv)
theorem ee_len (hg : Gl X "len") (hm : X.mg "len" = none) (ha : PA X [a] (SA X.K T f)) (he : starEach [a] X.env = (false, eval a X.env) :: starEach [] X.env := by rfl) : PE X (.Call (.Name "len" p) [a] [] pos) (SE X.K T (eCB (c1 oLen) f)) := ee_callB call_len_seq oc_len hg hm PySem.boot_len ha (he := he)
theorem ee_int_ (hg : Gl X "int") (hm : X.mg "int" = none) (ha : PA X [a] (SA X.K T f)) (he : starEach [a] X.env = (false, eval a X.env) :: starEach [] X.env := by rfl) : PE X (.Call (.Name "int" p) [a] [] pos) (SE X.K T (eCB (c1 oIntOf) f)) := ee_callTy call_int1 oc_int hg hm (by decide +kernel) ha (he := he)
theorem ee_min2 (hc : X.calm = true) (hg : Gl X "min") (hm : X.mg "min" = none) (ha : PA X [a, b] (SA X.K T f)) (he : starEach [a, b] X.env = (false, eval a X.env) :: starEach [b] X.env := by rfl) (hpl : (backTo pos (starEach [b] X.env)).any (·.1) = false := by rfl) : PE X (.Call (.Name "min" p) [a, b] [] pos) (SE X.K T (eCB (c2 oMin2) f)) := ee_callB (call_min2 hc) oc_min2 hg hm (by decide +kernel) ha (he := he) (hpl := hpl)
theorem ee_max2 (hc : X.calm = true) (hg : Gl X "max") (hm : X.mg "max" = none) (ha : PA X [a, b] (SA X.K T f)) (he : starEach [a, b] X.env = (false, eval a X.env) :: starEach [b] X.env := by rfl) (hpl : (backTo pos (starEach [b] X.env)).any (·.1) = false := by rfl) : PE X (.Call (.Name "max" p) [a, b] [] pos) (SE X.K T (eCB (c2 oMax2) f)) := ee_callB (call_max2 hc) oc_max2 hg hm (by decide +kernel) ha (he := he) (hpl := hpl)
theorem ee_list (hg : Gl X "list") (hm : X.mg "list" = none) (ha : PA X [a] (SA X.K T f)) (he : starEach [a] X.env = (false, eval a X.env) :: starEach [] X.env := by rfl) : PE X (.Call (.Name "list" p) [a] [] pos) (SE X.K T (eCB (c1 oListOf) f)) := ee_callTy call_list_of oc_list hg hm (by decide +kernel) ha (he := he)
theorem ee_tuple (hg : Gl X "tuple") (hm : X.mg "tuple" = none) (ha : PA X [a] (SA X.K T f)) (he : starEach [a] X.env = (false, eval a X.env) :: starEach [] X.env := by rfl) : PE X (.Call (.Name "tuple" p) [a] [] pos) (SE X.K T (eCB (c1 oTupOf) f)) := ee_callTy call_tuple_of oc_tuple hg hm (by decide +kernel) ha (he := he)
end
end Dt
end

section
set_option Elab.async false
set_option linter.all false
set_option maxRecDepth 100000
set_option maxHeartbeats 4000000
namespace Dt
open PySem PySem.Spec PyProof.Rows L2 Builtin

/-! ### enumerate(v), v a list or a tuple -/
theorem en_make {v : Value} {o : Obj} {H : Heap → Prop} (B : Begins v o H) :
    Meets (Builtin.«enumerate.__new__» ⟨[.type "enumerate", v], []⟩) (fun _ R s => H s.heap ∧ R (.ok (.ret (.ref (s.heap.push o).objs.size))) { s with heap := (s.heap.push o).push { cls := .type "enumerate", data := .fields #[.none, .bool false, .ref s.heap.objs.size, rawInt 0, .none, .none] } }) :=
  .of_wp fun prog w A R s h => by
    obtain ⟨hp, g, d, tk, os⟩ := s; obtain ⟨h1, h⟩ := h; have sub := sub_enumerate
    have q1 : ∀ {A' : Around} {E : Value → Shared → Prop} {Q : Value → Shared → Prop}, Q (.ref hp.objs.size) ⟨hp.push o, g, d, tk, os⟩ → wpAny (model prog w) A' (pyIter v) Q E ⟨hp, g, d, tk, os⟩ := fun q => B.iter prog w _ _ ⟨hp, g, d, tk, os⟩ _ h1 q
    wp_walk using q1
    refine wpAny_stack_any fun st => wpAny_pure ?_
    split
    · rename_i c _ _ _ _ _
      cases (c == Value.type "enumerate") <;> (wp_walk using q1; exact ⟨_, rfl, h⟩)
    · (wp_walk using q1; exact ⟨_, rfl, h⟩)
theorem en_call {prog : Program} {w : World} {A : Around} {E : Value → Shared → Prop} {s : Shared} {v : Value} {o : Obj} {H : Heap → Prop} {Q : Value → Shared → Prop} (B : Begins v o H) (h1 : H s.heap)
    (h : ∀ h', IsEnum h' (s.heap.objs.size + 1) s.heap.objs.size 0 .none → h'.get? s.heap.objs.size = some o → (∀ b o, s.heap.get? b = some o → h'.get? b = some o) → Q (.ref (s.heap.objs.size + 1)) { s with heap := h' }) :
    wpAny (model prog w) A (call (.type "enumerate") [v]) Q E s := by
  refine callType_new F.called_enumerate (by decide) (F.typeCall_enumerate_1 _) (F.newCall_enumerate_1 _) (fun ob => F.args_object_init_2 ob _) F.entry_enumerate_new (en_make B) ⟨h1, ?_⟩
  have hz : (s.heap.push o).objs.size = s.heap.objs.size + 1 := Heap.size_push ..
  rw [hz]
  have he : IsEnum ((s.heap.push o).push { cls := .type "enumerate", data := .fields #[.none, .bool false, .ref s.heap.objs.size, rawInt 0, .none, .none] }) (s.heap.objs.size + 1) s.heap.objs.size 0 .none := by
    have q := Heap.get?_push_size (s.heap.push o) (o := { cls := .type "enumerate", data := .fields #[.none, .bool false, .ref s.heap.objs.size, rawInt 0, .none, .none] }) rfl
    rw [hz] at q; exact q
  exact ⟨⟨_, he, rfl⟩, h _ he (Heap.get?_push_of_some _ (Heap.get?_push_size _ B.free)) fun b o x => Heap.get?_push_of_some _ (Heap.get?_push_of_some _ x)⟩

/-- the tuple at a, each item in a new pair -/
def ItT (K : PySem.W.Frag) (a : Addr) (n : Nat) : It :=
  ⟨fun i H => ∃ (xs : List V) (x : V), SqT K H a xs ∧ xs[i]? = some x ∧ xs.length = n, fun i H v H' => ∃ T x, v = .ref T ∧ H T = none ∧ H' = upd H T (.tup [.int (i : Nat), x]) ∧ ∀ xs, SqT K H a xs → xs[i]? = some x, fun i H => ∃ xs : List V, SqT K H a xs ∧ xs.length = n ∧ n ≤ i⟩
theorem turn_enumT {P : Program} {w : World} {K : PySem.W.Frag} {elts : List Expr} {kk : Nat} {tpos : Pos} (a e it : Addr) (n : Nat) :
    Turn P w K (.Tuple elts kk tpos) (ItT K a n) [e, it] e (fun i h => (∃ old, IsEnum h e it ((i : Nat) : Int) old) ∧ h.IsTupleIter it a i ∧ e ≠ it ∧ a ≠ it ∧ a ≠ e ∧ i ≤ n) where
  mem := by simp
  obj := fun i h st b hb => by
    obtain ⟨⟨old, he⟩, ⟨o, ho, hc, hd⟩, _⟩ := st
    rcases (by simpa using hb : b = e ∨ b = it) with z | z
    · exact ⟨_, z ▸ he, fun v q => by cases q⟩
    · exact ⟨o, z ▸ ho, fun v q => by rw [hd] at q; cases q⟩
  keep := fun i h h' st k => let ⟨⟨old, he⟩, hi, n⟩ := st; ⟨⟨old, k e (by simp) _ he⟩, hi.at fun o q => k it (by simp) o q, n⟩
  item := by
    intro X hP hw hK hc i pins s σ H E I hf st hg
    subst hP hw hK
    obtain ⟨⟨old, he⟩, hit, hne, hai, hae, hin⟩ := st
    obtain ⟨xs, x, hq, hx, hxn⟩ := hg
    obtain ⟨its, rv, p, hz⟩ := I.tuple hq
    obtain ⟨u, hu, ru⟩ := rv.get hx
    have hel : e < s.heap.objs.size := Heap.lt_size he
    have hil : it < s.heap.objs.size := by obtain ⟨_, q, _⟩ := hit; exact Heap.lt_size q
    have hn : i < its.toArray.size := by
      have := (List.getElem?_eq_some_iff.mp hu).1
      simpa using this
    refine wpAny_pyNext_enum_itemD (Draws.tuple (A := X.A.in1) (I.ok.hd hc) it a hai its.toArray) he ⟨hit, p⟩ hn hne (by simp [hne, Ne.symm hae]) fun y h' tk hy ho hst hT hsz hk => ?_
    have ey : y = u := by
      have hu' : its.toArray[i]? = some u := by simpa using hu
      exact Option.some.inj (hy.symm.trans hu')
    subst ey
    refine ⟨_, rfl, wpAny_letOwnedTupleGo_enum (s := { s with heap := h', toks := tk + 1 }) ho fun h'' he' sb => ?_⟩
    have hT2 : h''.get? s.heap.objs.size = some { cls := .type "tuple", data := .seq #[.int i tk, y] } := (sb.2 _ (Nat.ne_of_gt hel)).trans hT
    have new : ObjOk X.prog X.w (upd H s.heap.objs.size (.tup [.int (i : Nat), x])) h'' s.heap.objs.size (.tup [.int (i : Nat), x]) := ⟨by show 2 ≤ sizeLine; decide, [.int i tk, y], .cons ⟨_, rfl⟩ (.cons ru .nil), ⟨_, hT2, rfl, _, rfl⟩⟩
    have I1 : Inv X pins σ (upd H s.heap.objs.size (.tup [.int (i : Nat), x])) { s with heap := h'', toks := tk + 1 } := I.turnedNew (ch := [e, it]) (fun b ob hb q => (sb.2 b (fun z => hb (by simp [z]))).trans (hk b ob (fun z => hb (by simp [z])) (fun z => hb (by simp [z])) q)) hf (Nat.le_refl _) new
    refine ⟨.ref s.heap.objs.size, _, I1, rfl, ⟨_, x, rfl, I.hok.fresh (Nat.le_refl _), rfl, fun ys hy => by rw [I.tuple_inj hy hq]; exact hx⟩, ⟨⟨y, ?_⟩, hst.1.at fun o q => (sb.2 it (Ne.symm hne)).trans q, hne, hai, hae, by have := (List.getElem?_eq_some_iff.mp hx).1; omega⟩, fun b hb => ?_⟩
    · rw [show ((i + 1 : Nat) : Int) = (i : Int) + 1 by omega]; exact he'
    · have hb' : b < s.heap.objs.size := by
        rcases (by simpa using hb : b = e ∨ b = it) with z | z <;> (rw [z]; assumption)
      rw [upd_ne (Nat.ne_of_lt hb')]
      exact (hf b hb).1
  done := by
    intro X hP hw hK hc i pins s σ H E I hf st hg
    subst hP hw hK
    obtain ⟨⟨old, he⟩, hit, hne, hai, hae, hin⟩ := st
    obtain ⟨xs, hq, hxn, hx⟩ := hg
    obtain ⟨its, rv, p, hz⟩ := I.tuple hq
    obtain ⟨f0, f1, f2, f3, f4, f5⟩ := hf it (by simp)
    have hl := rv.length
    have ei : its.toArray.size = i := by
      rw [List.size_toArray]; omega
    refine wpAny_pyNext_enum_endD (Draws.tuple (A := X.A.in1) (I.ok.hd hc) it a hai its.toArray) he ⟨by rw [ei]; exact hit, p⟩ fun h' eb => ⟨rfl, I.turned (t' := s.toks) (fun b o hb q => eb b o hb q) f0 f1 f3 f4 f5⟩
  self := fun A i s Q E st h => let ⟨⟨_, he⟩, _⟩ := st; wpAny_pyIter_enum he h
def iEnumT (K : PySem.W.Frag) (ta : TA) : TI := fun σ H R => ta σ H fun vs H1 => ∃ a xs, vs = [.ref a] ∧ SqT K H1 a xs ∧ R (ItT K a xs.length) H1
def iEnumS (K : PySem.W.Frag) (ta : TA) : TI := fun σ H R => ta σ H fun vs H1 => ∃ a xs, vs = [.ref a] ∧ ((SqT K H1 a xs ∧ R (ItT K a xs.length) H1) ∨ (SqL K H1 a xs ∧ R (Ite K a) H1))
theorem pi_enumS {X : Cx} {e : Expr} {ta : TA} {p pos tpos : Pos} {elts : List Expr} {kk : Nat} (hg : Gl X "enumerate") (hm : X.mg "enumerate" = none) (ha : PA X [e] ta) (hs : starEach [e] X.env = [(false, eval e X.env)] := by rfl) :
    PI X (.Tuple elts kk tpos) (.Call (.Name "enumerate" p) [e] [] pos) (iEnumS X.K ta) := by
  refine ⟨fun pins s σ H R I h => ?_⟩
  refine Call_ (ld_blt I hg hm boot_enumerate (PyProof.Rows.callWith_type1 (thn (ha.run pos pins s σ H _ I h) fun us s1 ⟨vs, H1, I1, r1, q1⟩ => ?_) hs rfl))
  obtain ⟨a, xs, ex, q1⟩ := q1
  subst ex
  cases r1 with
  | cons r rr =>
    cases rr
    cases r
    have fp : ∀ b ∈ [s1.heap.objs.size + 1, s1.heap.objs.size], FpOk X pins H1 b := fun b hb => by
      have hle : s1.heap.objs.size ≤ b := by rcases (by simpa using hb : b = s1.heap.objs.size + 1 ∨ b = s1.heap.objs.size) with z | z <;> omega
      exact I1.fpOk hle (I1.hok.fresh hle)
    rcases q1 with ⟨hq, q⟩ | ⟨hq, q⟩
    · obtain ⟨its, rv, p', hz⟩ := I1.tuple hq
      have hal : a < s1.heap.objs.size := by obtain ⟨_, z, _⟩ := p'; exact Heap.lt_size z
      refine en_call (begins_tuple a its.toArray) p' fun h' he hit hk => wpAny_pyIter_enum he ?_
      exact ⟨s1.heap.objs.size + 1, [s1.heap.objs.size + 1, s1.heap.objs.size], _, _, H1, rfl, I1.kept (t' := s1.toks) hk, turn_enumT a (s1.heap.objs.size + 1) s1.heap.objs.size xs.length, ⟨⟨.none, he⟩, ⟨_, hit, rfl, rfl⟩, Nat.succ_ne_self _, Nat.ne_of_lt hal, Nat.ne_of_lt (Nat.lt_succ_of_lt hal), Nat.zero_le _⟩, fp, q⟩
    · obtain ⟨its, rv, p', hz⟩ := I1.list hq
      refine en_call (begins_list a its.toArray) p'.isList fun h' he hit hk => wpAny_pyIter_enum he ?_
      exact ⟨s1.heap.objs.size + 1, [s1.heap.objs.size + 1, s1.heap.objs.size], _, _, H1, rfl, I1.kept (t' := s1.toks) hk, turn_enum a (s1.heap.objs.size + 1) s1.heap.objs.size, ⟨⟨.none, he⟩, ⟨_, hit, rfl, rfl⟩, Nat.succ_ne_self _⟩, fp, q⟩
end Dt
end

section
set_option Elab.async false
set_option linter.all false
set_option maxRecDepth 100000
set_option maxHeartbeats 4000000
set_option autoImplicit false
namespace Dt
open PySem PySem.Spec PyProof.Rows L2

section
variable {K : PySem.W.Frag} {T : Tab} {π σ : L2.St} {F S S' H H' : Hp} {ρ ρ' : Env} {a : Addr} {v : V} {d : D} {r : RV}
def Cell.put : Cell → D → Cell
  | .own _, d => .own d
  | .brw _, d => .brw d
  | c, _ => c
def Cell.dat : Cell → Option D
  | .fro d => some d
  | .own d => some d
  | .brw d => some d
  | .un => none
theorem Cell.put_mut {c : Cell} {d : D} : (c.put d).mut = c.mut := by cases c <;> rfl
/-- our own object at slot i is changed -/
theorem Rel.mutate (R : Rel K T π F S ρ σ H) {i : Nat} {c : Cell} {o : HO} (hc : ρ[i]? = some c) (m : c.mut = true) (e : σ[i]? = some (some (V.ref a))) (n : Node K T S (upd H a o) a d) : Rel K T π F S (ρ.set i (c.put d)) σ (upd H a o) := by
  obtain ⟨h1, h2, _⟩ := R.ownAt hc m e
  obtain ⟨d0, h3⟩ : ∃ d0, Own K T F S H a d0 := by
    have q := R.sl i c hc
    cases c with
    | un => cases m
    | fro _ => cases m
    | own d0 => obtain ⟨b, q1, q2⟩ := q; rw [e] at q1; cases q1; exact ⟨d0, q2⟩
    | brw d0 => obtain ⟨b, q1, _, q2⟩ := q; rw [e] at q1; cases q1; exact ⟨d0, q2⟩
  have sU : ∀ {G : Hp}, Same G H → G a = none → Same G (upd H a o) := fun {G} s z b x q => by
    rw [upd_ne (ne_of_none q z)]; exact s _ _ q
  have own : ∀ {j : Nat} {cj : Cell} {b : Addr}, j ≠ i → ρ[j]? = some cj → cj.mut = true → σ[j]? = some (some (V.ref b)) → (upd H a o) b = H b := fun nj hj mj ej => upd_ne fun z => nj (R.ds _ _ a _ _ hj hc mj m (by rw [ej, z]) e)
  refine ⟨sU R.sS h1, sU R.sF h2, R.dj, R.nS, R.nF, tabs_keep R.tb h3.2.2 fun b hb => upd_ne hb, by rw [List.length_set]; exact R.len, fun j cj hj => ?_, fun j k b cj ck hj hk mj mk ej ek => ?_⟩
  · rcases getElem?_set_cases hj with ⟨rfl, rfl⟩ | ⟨nj, hj⟩
    · have q := R.sl j c hc
      cases c with
      | un => cases m
      | fro _ => cases m
      | own _ => exact ⟨a, e, h1, h2, n⟩
      | brw _ =>
        obtain ⟨b, q1, q2, _⟩ := q
        rw [q1] at e; cases e
        exact ⟨a, q1, q2, h1, h2, n⟩
    · have q := R.sl j cj hj
      cases cj with
      | un => trivial
      | fro _ => exact q
      | own _ => obtain ⟨b, q1, q2⟩ := q; exact ⟨b, q1, q2.heap (own nj hj rfl q1)⟩
      | brw _ => obtain ⟨b, q1, q0, q2⟩ := q; exact ⟨b, q1, q0, q2.heap (own nj hj rfl q1)⟩
  · have back : ∀ {j : Nat} {cj : Cell}, (ρ.set i (c.put d))[j]? = some cj → cj.mut = true → ∃ cj', ρ[j]? = some cj' ∧ cj'.mut = true := fun {j cj} hj mj => by
      rcases getElem?_set_cases hj with ⟨rfl, rfl⟩ | ⟨_, hj⟩
      · exact ⟨c, hc, m⟩
      · exact ⟨_, hj, mj⟩
    obtain ⟨cj', hj', mj'⟩ := back hj mj
    obtain ⟨ck', hk', mk'⟩ := back hk mk
    exact R.ds j k b _ _ hj' hk' mj' mk' ej ek
def storeC : RV → Option Cell
  | .fro d => some (.fro d)
  | .own d => some (.own d)
  | .bor _ => none
theorem Rel.store (R : Rel K T π F S ρ σ H) {i : Nat} {c : Cell} (h : RVR K T F S H ρ σ v r) (e : storeC r = some c) : Rel K T π F S (ρ.set i c) (σ.set i (some v)) H := by
  have cnb : ∀ d, c ≠ .brw d := fun d z => by cases r <;> cases e <;> cases z
  refine ⟨R.sS, R.sF, R.dj, R.nS, R.nF, R.tb, by rw [List.length_set, List.length_set]; exact R.len, fun j cj hj => ?_, fun j k b cj ck hj hk mj mk ej ek => ?_⟩
  · rcases getElem?_set_cases hj with ⟨rfl, rfl⟩ | ⟨nj, hj⟩
    · have hl : j < σ.length := by
        have := (List.getElem?_eq_some_iff.mp hj).1
        rw [List.length_set, R.len] at this; exact this
      have es : (σ.set j (some v))[j]? = some (some v) := List.getElem?_set_self hl
      cases r with
      | bor _ => cases e
      | fro d => cases e; exact ⟨v, es, h⟩
      | own d =>
        cases e
        obtain ⟨a, rfl, o, _⟩ := h
        exact ⟨a, es, o⟩
    · have q := R.sl j cj hj
      have es : (σ.set i (some v))[j]? = σ[j]? := List.getElem?_set_ne (Ne.symm nj)
      rw [es]
      exact q
  · have own : ∀ {j : Nat} {cj : Cell}, j ≠ i → (ρ.set i c)[j]? = some cj → cj.mut = true → (σ.set i (some v))[j]? = some (some (V.ref b)) → ρ[j]? = some cj ∧ σ[j]? = some (some (V.ref b)) := fun nj hj _ ej => by
      rw [List.getElem?_set_ne (Ne.symm nj)] at hj ej
      exact ⟨hj, ej⟩
    have at_i : ∀ {cj : Cell}, (ρ.set i c)[i]? = some cj → cj.mut = true → (σ.set i (some v))[i]? = some (some (V.ref b)) → Apart ρ σ b := fun {cj} hj mj ej => by
      have hl : i < ρ.length := by
        have := (List.getElem?_eq_some_iff.mp hj).1
        rw [List.length_set] at this; exact this
      rw [List.getElem?_set_self hl] at hj
      rw [List.getElem?_set_self (by rw [← R.len]; exact hl)] at ej
      cases hj
      cases r with
      | bor _ => cases e
      | fro d => cases e; cases mj
      | own d =>
        obtain ⟨a, rfl, _, ap⟩ := h
        cases ej
        exact ap
    by_cases nj : j = i
    · subst nj
      by_cases nk : k = j
      · exact nk.symm
      · obtain ⟨h1, h2⟩ := own nk hk mk ek
        exact absurd h2 (at_i hj mj ej k ck h1 mk)
    · obtain ⟨h1, h2⟩ := own nj hj mj ej
      by_cases nk : k = i
      · subst nk
        exact absurd h2 (at_i hk mk ek j cj h1 mj)
      · obtain ⟨h3, h4⟩ := own nk hk mk ek
        exact R.ds j k b cj ck h1 h3 mj mk h2 h4
end

/-! ### blocks -/
def sNil : SF := fun ρ => .ok (.nx, ρ)
def sCons (f g : SF) : SF := fun ρ => (f ρ).bind fun p => match p.1 with
  | .nx => g p.2
  | fl => .ok (fl, p.2)
section
variable {K : PySem.W.Frag} {T : Tab} {π : L2.St} {F S S' : Hp} {ρ' : Env} {D : Ends}
theorem FlW.mono {fl : Fl} (e : Same S S') (h : FlW K T π F S ρ' D fl) : FlW K T π F S' ρ' D fl := by
  cases fl with
  | nx => exact fun S2 σ' H' s R => h S2 σ' H' (e.trans s) R
  | ret r => exact fun S2 σ' H' v s R rv => h S2 σ' H' v (e.trans s) R rv
  | bk => exact fun S2 σ' H' s R => h S2 σ' H' (e.trans s) R
  | ct => exact fun S2 σ' H' s R => h S2 σ' H' (e.trans s) R
end
section
variable {X : Cx} {T : Tab} {st : Stmt} {rest : List Stmt} {f g : SF} {fe : EF} {e : Expr} {pos : Pos}
theorem ss_nil : PSs X [] (SS X.K T sNil) := pss_nil.imp fun D σ H ⟨π, F, S, ρ, fl, ρ', R, e, q⟩ => by
  cases e
  exact q S σ H (Same.refl S) R
theorem ss_cons (h1 : PS X st (SS X.K T f)) (h2 : PSs X rest (SS X.K T g)) : PSs X (st :: rest) (SS X.K T (sCons f g)) := (pss_cons h1 h2).imp fun D σ H ⟨π, F, S, ρ, fl, ρ', R, e, q⟩ => by
  obtain ⟨⟨fl1, ρ1⟩, e1, e⟩ := Res.bind_eq e
  refine ⟨π, F, S, ρ, fl1, ρ1, R, e1, ?_⟩
  cases fl1 with
  | nx => exact fun S' σ' H' s R' => ⟨π, F, S', ρ1, fl, ρ', R', e, q.mono s⟩
  | ret r => cases e; exact q
  | bk => cases e; exact q
  | ct => cases e; exact q
theorem ss_one (h1 : PS X st (SS X.K T f)) : PSs X [st] (SS X.K T f) := pss_one h1
/-- never come to -/
def sBad : SF := fun _ => .bad
theorem ss_bad : PS X st (SS X.K T sBad) := ⟨fun _ _ _ _ _ _ ⟨_, _, _, _, _, _, _, e, _⟩ => nomatch e⟩
def sPass : SF := fun ρ => .ok (.nx, ρ)
def sBreak : SF := fun ρ => .ok (.bk, ρ)
def sCont : SF := fun ρ => .ok (.ct, ρ)
theorem ss_pass : PS X (.Pass pos) (SS X.K T sPass) := ps_pass.imp fun D σ H ⟨π, F, S, ρ, fl, ρ', R, e, q⟩ => by
  cases e
  exact q S σ H (Same.refl S) R
theorem ss_break : PS X (.Break pos) (SS X.K T sBreak) := ps_break.imp fun D σ H ⟨π, F, S, ρ, fl, ρ', R, e, q⟩ => by
  cases e
  exact q S σ H (Same.refl S) R
theorem ss_cont : PS X (.Continue pos) (SS X.K T sCont) := ps_continue.imp fun D σ H ⟨π, F, S, ρ, fl, ρ', R, e, q⟩ => by
  cases e
  exact q S σ H (Same.refl S) R
def sDrop (f : EF) : SF := fun ρ => (f ρ).bind fun p => .ok (.nx, p.2)
theorem ss_expr (he : PE X e (SE X.K T fe)) (hs : swapsWith e none pos.line X.env = pure false := by rfl) : PS X (.Expr e pos) (SS X.K T (sDrop fe)) := (ps_expr he hs).imp fun D σ H ⟨π, F, S, ρ, fl, ρ', R, e, q⟩ => by
  obtain ⟨⟨r, ρ1⟩, e1, e⟩ := Res.bind_eq e
  cases e
  exact ⟨π, F, S, ρ, r, _, R, e1, fun S' H' v s R' _ => q S' σ H' s R'⟩
def sRet (f : EF) : SF := fun ρ => (f ρ).bind fun p => .ok (.ret p.1, p.2)
theorem ss_ret (he : PE X e (SE X.K T fe)) : PS X (.Return (some e) pos) (SS X.K T (sRet fe)) := (ps_ret he).imp fun D σ H ⟨π, F, S, ρ, fl, ρ', R, e, q⟩ => by
  obtain ⟨⟨r, ρ1⟩, e1, e⟩ := Res.bind_eq e
  cases e
  exact ⟨π, F, S, ρ, r, _, R, e1, fun S' H' v s R' rv => q S' σ H' v s R' rv⟩
def sRetN : SF := fun ρ => .ok (.ret (.fro .non), ρ)
theorem ss_retN : PS X (.Return none pos) (SS X.K T sRetN) := ps_retN.imp fun D σ H ⟨π, F, S, ρ, fl, ρ', R, e, q⟩ => by
  cases e
  exact q S σ H .non (Same.refl S) R .non
def sIf (c : BF) (f g : SF) : SF := getB c fun b ρ1 => if b = true then f ρ1 else g ρ1
theorem ss_if {c : Expr} {a b : List Stmt} {p : BF} (hc : PT X c (ST X.K T p)) (ha : PSs X a (SS X.K T f)) (hb : PSs X b (SS X.K T g)) : PS X (.If c a b pos) (SS X.K T (sIf p f g)) := (ps_if hc ha hb).imp fun D σ H ⟨π, F, S, ρ, fl, ρ', R, e, q⟩ => by
  obtain ⟨⟨b, ρ1⟩, e1, e⟩ := Res.bind_eq e
  refine ⟨π, F, S, ρ, b, ρ1, R, e1, fun S' H' s R' => ?_⟩
  cases b with
  | true => exact ⟨π, F, S', ρ1, fl, ρ', R', e, q.mono s⟩
  | false => exact ⟨π, F, S', ρ1, fl, ρ', R', e, q.mono s⟩
/-- name = e -/
def sSet (i : Nat) (f : EF) : SF := fun ρ => (f ρ).bind fun p => (Res.of (storeC p.1)).bind fun c => .ok (.nx, p.2.set i c)
theorem ss_asg_name {i : Nat} {st : Stmt} (h : PS X st (tAsg (SE X.K T fe) (gName i))) : PS X st (SS X.K T (sSet i fe)) := h.imp fun D σ H ⟨π, F, S, ρ, fl, ρ', R, e, q⟩ => by
  obtain ⟨⟨r, ρ1⟩, e1, e⟩ := Res.bind_eq e
  obtain ⟨c, e2, e⟩ := Res.bind_eq e
  cases e
  exact ⟨π, F, S, ρ, r, ρ1, R, e1, fun S' H' v s R' rv => q S' (σ.set i (some v)) H' s (R'.store rv (Res.of_eq e2))⟩
theorem ss_set {i : Nat} {x : Str} {pos' : Pos} (hN : X.N.Nodup) (hi : X.N[i]? = some x) (hx : Loc X.env.scope x) (he : PE X e (SE X.K T fe)) (hs : swapsWith e (some (.Name x pos')) pos.line X.env = pure false := by rfl) (hf : X.fn x = true ∨ X.env.scope.names.lookup x = some .local := by first | exact .inl rfl | exact .inr rfl | assumption) :
    PS X (.Assign [.Name x pos'] e pos) (SS X.K T (sSet i fe)) := ss_asg_name (ps_set hN hi hx he hs hf)
end

/-! ### targets -/
abbrev GF := D → Env → Res Env
/-- d is given to the target: the slots is alone change -/
def SG (K : PySem.W.Frag) (T : Tab) (g : GF) (is : List Nat) : TG := fun v σ H Q => ∃ π F S ρ d ρ', Rel K T π F S ρ σ H ∧ DR K T S v d ∧ g d ρ = .ok ρ' ∧ ∀ σ', Rel K T π F S ρ' σ' H → (∀ vs : List Nat, (∀ i ∈ is, i ∈ vs) → wipe σ' vs = wipe σ vs) → Q σ' H
def SGs (K : PySem.W.Frag) (T : Tab) (g : List D → Env → Res Env) (is : List Nat) : TGs := fun vs σ H Q => ∃ π F S ρ ds ρ', Rel K T π F S ρ σ H ∧ DRs K T S vs ds ∧ g ds ρ = .ok ρ' ∧ ∀ σ', Rel K T π F S ρ' σ' H → (∀ ws : List Nat, (∀ i ∈ is, i ∈ ws) → wipe σ' ws = wipe σ ws) → Q σ' H
def gN (i : Nat) : GF := fun d ρ => .ok (ρ.set i (.fro d))
def gsNil : List D → Env → Res Env := fun ds ρ => match ds with
  | [] => .ok ρ
  | _ => .bad
def gsCons (g : GF) (h : List D → Env → Res Env) : List D → Env → Res Env := fun ds ρ => match ds with
  | d :: ds => (g d ρ).bind fun ρ1 => h ds ρ1
  | _ => .bad
def gT (n : Nat) (h : List D → Env → Res Env) : GF := fun d ρ => match d with
  | .tup ds => if ds.length = n then h ds ρ else .bad
  | _ => .bad
theorem wipe_set (σ : L2.St) (i : Nat) (x : Option V) : ∀ vs : List Nat, i ∈ vs → wipe (σ.set i x) vs = wipe σ vs
  | [], h => by cases h
  | v :: vs, h => by
    show (wipe (σ.set i x) vs).set v none = (wipe σ vs).set v none
    by_cases hv : i ∈ vs
    · rw [wipe_set σ i x vs hv]
    · have e : i = v := by
        rcases List.mem_cons.mp h with e | h
        · exact e
        · exact absurd h hv
      subst e
      apply List.ext_getElem?
      intro k
      by_cases hk : i = k
      · subst hk
        simp [List.getElem?_set, wipe_length, List.length_set]
      · rw [List.getElem?_set_ne hk, List.getElem?_set_ne hk]
        by_cases hm : k ∈ vs
        · have z : ∀ τ : L2.St, τ.length = σ.length → ∀ ws : List Nat, k ∈ ws → (wipe τ ws)[k]? = if k < σ.length then some none else none := fun τ hl ws => by
            induction ws with
            | nil => intro h; cases h
            | cons w ws ih =>
              intro h
              show ((wipe τ ws).set w none)[k]? = _
              by_cases hw : w = k
              · subst hw
                rw [List.getElem?_set]
                simp [wipe_length, hl]
              · rw [List.getElem?_set_ne hw]
                exact ih ((List.mem_cons.mp h).resolve_left fun z => hw z.symm)
          rw [z _ (List.length_set ..) vs hm, z _ rfl vs hm]
        · rw [wipe_out hm, wipe_out hm, List.getElem?_set_ne hk]
section
variable {X : Cx} {T : Tab} {pos : Pos}
theorem gg_name {i : Nat} {x : Str} (hN : X.N.Nodup) (hi : X.N[i]? = some x) (hx : Loc X.env.scope x) (hf : X.fn x = true ∨ X.env.scope.names.lookup x = some .local := by first | exact .inl rfl | exact .inr rfl | assumption) : PG X (.Name x pos) (SG X.K T (gN i) [i]) :=
  ⟨fun pins s σ H v u Q I r ⟨π, F, S, ρ, d, ρ', R, hd, e, q⟩ => (pg_name hN hi hx hf).run pins s σ H v u Q I r (by
    cases e
    exact q _ (R.store (r := .fro d) hd rfl) fun vs h => wipe_set σ i _ vs (h i (by simp)))⟩
theorem ggs_nil : PGs X [] (SGs X.K T gsNil []) := ⟨fun pins s σ H vs us Q I r ⟨π, F, S, ρ, ds, ρ', R, hd, e, q⟩ => pgs_nil.run pins s σ H vs us Q I r (by
  cases hd with
  | nil => cases e; exact ⟨rfl, q σ R fun _ _ => rfl⟩
  | cons _ _ => cases e)⟩
theorem ggs_cons {e : Expr} {es : List Expr} {g : GF} {h : List D → Env → Res Env} {is js : List Nat} (h1 : PG X e (SG X.K T g is)) (h2 : PGs X es (SGs X.K T h js))
    (hs : (assignEach (e :: es) X.env).map (·.2) = assign e X.env :: (assignEach es X.env).map (·.2) := by rfl) : PGs X (e :: es) (SGs X.K T (gsCons g h) (is ++ js)) :=
  ⟨fun pins s σ H vs us Q I r ⟨π, F, S, ρ, ds, ρ', R, hd, e, q⟩ => (pgs_cons h1 h2 hs).run pins s σ H vs us Q I r (by
    cases hd with
    | nil => cases e
    | cons hd hr =>
      obtain ⟨ρ1, e1, e2⟩ := Res.bind_eq e
      exact ⟨_, _, rfl, π, F, S, ρ, _, ρ1, R, hd, e1, fun σ1 R1 w1 => ⟨π, F, S, ρ1, _, ρ', R1, hr, e2, fun σ2 R2 w2 => q σ2 R2 fun ws hw => (w2 ws fun i hi => hw i (List.mem_append_right _ hi)).trans (w1 ws fun i hi => hw i (List.mem_append_left _ hi))⟩⟩)⟩
theorem gg_tup {es : List Expr} {k : Nat} {h : List D → Env → Res Env} {is : List Nat} {n : Nat} (hc : X.calm = true) (hg : PGs X es (SGs X.K T h is))
    (hn : (assignEach es X.env).length = n := by rfl) (hst : (assignEach es X.env).findIdx? (·.1) = none := by rfl) : PG X (.Tuple es k pos) (SG X.K T (gT n h) is) :=
  ⟨fun pins s σ H v u Q I r ⟨π, F, S, ρ, d, ρ', R, hd, e, q⟩ => (pg_tup hc hg hn hst).run pins s σ H v u Q I r (by
    cases d <;> first | (cases e; done) | skip
    rename_i ds
    cases hd with
    | tup hq hr =>
      have e : (if ds.length = n then h ds ρ else Res.bad) = .ok ρ' := e
      split at e
      · exact ⟨_, _, rfl, sqT_same R.sS hq, hr.length.trans (by assumption), π, F, S, ρ, ds, ρ', R, hr, e, q⟩
      · cases e)⟩
/-- target = e -/
def sAsg (g : GF) (f : EF) : SF := fun ρ => (f ρ).bind fun p => match p.1 with
  | .fro d => (g d p.2).bind fun ρ1 => .ok (.nx, ρ1)
  | .own d => (g d p.2).bind fun ρ1 => .ok (.nx, ρ1)
  | _ => .bad
theorem ss_asg {tg e : Expr} {fe : EF} {g : GF} {is : List Nat} (he : PE X e (SE X.K T fe)) (hg : PG X tg (SG X.K T g is)) (hs : swapsWithSole [tg] e pos.line X.env = pure false := by rfl) (hw : swappedStores [tg] e X.env = pure none := by rfl)
    (h1 : (assignEach [tg] X.env).map (·.2) = [assign tg X.env] := by rfl) : PS X (.Assign [tg] e pos) (SS X.K T (sAsg g fe)) := (ps_asg he hg hs hw h1).imp fun D σ H ⟨π, F, S, ρ, fl, ρ', R, e, q⟩ => by
  obtain ⟨⟨r, ρ1⟩, e1, e⟩ := Res.bind_eq e
  cases r with
  | bor i => cases e
  | fro d =>
    obtain ⟨ρ2, e2, e⟩ := Res.bind_eq e
    cases e
    exact ⟨π, F, S, ρ, _, ρ1, R, e1, fun S' H' v s R' rv => ⟨π, F, S', ρ1, d, _, R', rv, e2, fun σ' R2 _ => q S' σ' H' s R2⟩⟩
  | own d =>
    obtain ⟨ρ2, e2, e⟩ := Res.bind_eq e
    cases e
    refine ⟨π, F, S, ρ, _, ρ1, R, e1, fun S' H' v s R' rv => ?_⟩
    obtain ⟨S2, s2, R2, hv⟩ := rv.hold R'
    exact ⟨π, F, S2, ρ1, d, _, R2, hv, e2, fun σ' R3 _ => q S2 σ' H' (s.trans s2) R3⟩
end

/-! ### a, b = e, f -/
section
variable {K : PySem.W.Frag} {T : Tab} {π σ : L2.St} {F S S' H H' : Hp} {ρ ρ' : Env} {a : Addr} {v : V} {d : D} {r : RV}
/-- a fresh object of ours is put aside -/
theorem Rel.lend (R : Rel K T π F S ρ σ H) {o : HO} (ho : Own K T F S H a d) (ap : Apart ρ σ a) (e : H a = some o) : Rel K T π (upd F a o) S ρ σ H := by
  refine ⟨R.sS, fun b x q => ?_, fun b x q => ?_, R.nS, R.nF.upd fun ps z => ho.2.2.notab ps (by rw [e, z]), R.tb, R.len, fun i c hc => ?_, R.ds⟩
  · by_cases hb : b = a
    · subst hb; rw [upd_same] at q; cases q; exact e
    · rw [upd_ne hb] at q; exact R.sF _ _ q
  · by_cases hb : b = a
    · subst hb; exact ho.1
    · rw [upd_ne hb] at q; exact R.dj _ _ q
  · have q := R.sl i c hc
    have nb : ∀ {b : Addr}, c.mut = true → σ[i]? = some (some (V.ref b)) → (upd F a o) b = F b := fun m z => upd_ne fun w => ap i c hc m (by rw [z, w])
    cases c with
    | un => trivial
    | fro _ => exact q
    | own _ => obtain ⟨b, q1, q2⟩ := q; exact ⟨b, q1, q2.1, by rw [nb rfl q1]; exact q2.2.1, q2.2.2⟩
    | brw _ => obtain ⟨b, q1, q0, q2⟩ := q; exact ⟨b, q1, q0, q2.1, by rw [nb rfl q1]; exact q2.2.1, q2.2.2⟩
theorem Rel.unlend {o : HO} (n : F a = none) (R : Rel K T π (upd F a o) S ρ σ H) : Rel K T π F S ρ σ H ∧ H a = some o ∧ S a = none ∧ Apart ρ σ a := by
  have keep : ∀ {b : Addr}, (upd F a o) b = none → F b = none ∧ b ≠ a := fun {b} z => by
    by_cases hb : b = a
    · subst hb; rw [upd_same] at z; cases z
    · rw [upd_ne hb] at z; exact ⟨z, hb⟩
  have sub : Same F (upd F a o) := same_upd n
  refine ⟨⟨R.sS, fun b x q => R.sF _ _ (sub _ _ q), fun b x q => R.dj _ _ (sub _ _ q), R.nS, fun b ps q => R.nF b ps (sub _ _ q), R.tb, R.len, fun i c hc => ?_, R.ds⟩, R.sF _ _ upd_same, R.dj _ _ upd_same, fun i c hc m z => ?_⟩
  · have q := R.sl i c hc
    cases c with
    | un => trivial
    | fro _ => exact q
    | own _ => obtain ⟨b, q1, q2⟩ := q; exact ⟨b, q1, q2.1, (keep q2.2.1).1, q2.2.2⟩
    | brw _ => obtain ⟨b, q1, q0, q2⟩ := q; exact ⟨b, q1, q0, q2.1, (keep q2.2.1).1, q2.2.2⟩
  · exact (keep (R.ownAt hc m z).2.1).2 rfl
end
end Dt
end

section
set_option Elab.async false
set_option linter.all false
set_option maxRecDepth 100000
set_option maxHeartbeats 4000000
set_option autoImplicit false
namespace Dt
open PySem PySem.Spec PyProof.Rows L2

/-! ### what is walked -/
abbrev IF := Env → Res (List D × Env)
/-- an item has come: as frozen data, or as a new tuple of such -/
def Came (K : PySem.W.Frag) (T : Tab) (S H : Hp) (x : V) (d : D) (H' : Hp) : Prop :=
  (H' = H ∧ DR K T S x d) ∨ ∃ (p : Addr) (vs : List V) (es : List D), x = .ref p ∧ H p = none ∧ H' = upd H p (.tup vs) ∧ d = .tup es ∧ DRs K T S vs es
theorem Came.mono {K : PySem.W.Frag} {T : Tab} {S S' H H' : Hp} {x : V} {d : D} (s : Same S S') (h : Came K T S H x d H') : Came K T S' H x d H' := by
  rcases h with ⟨e, h⟩ | ⟨p, vs, es, a1, a2, a3, a4, a5⟩
  · exact .inl ⟨e, h.mono s⟩
  · exact .inr ⟨p, vs, es, a1, a2, a3, a4, a5.mono s⟩
/-- the iterator J yields the data ds wherever S stands -/
def ItOk (K : PySem.W.Frag) (T : Tab) (J : It) (S : Hp) (ds : List D) : Prop :=
  (∀ H, Same S H → J.stop ds.length H) ∧ ∀ (i : Nat) (d : D), ds[i]? = some d → ∀ H, Same S H → J.go i H ∧ ∀ x H', J.yld i H x H' → Came K T S H x d H'
def SI (K : PySem.W.Frag) (T : Tab) (f : IF) : TI := fun σ H R => ∃ π F S ρ ds ρ', Rel K T π F S ρ σ H ∧ f ρ = .ok (ds, ρ') ∧ ∀ S' H' J, Same S S' → Rel K T π F S' ρ' σ H' → ItOk K T J S' ds → R J H'
theorem _root_.L2.PI.imp {X : Cx} {tg e : Expr} {t t' : TI} (h : PI X tg e t) (i : ∀ σ H Q, t' σ H Q → t σ H Q) : PI X tg e t' := ⟨fun pins s σ H Q I q => h.run pins s σ H Q I (i _ _ _ q)⟩
section
variable {K : PySem.W.Frag} {T : Tab} {S H : Hp} {a : Addr} {vs : List V} {ds : List D}
theorem itOk_list (hq : SqL K S a vs) (hd : DRs K T S vs ds) (inj : ∀ H xs, Same S H → SqL K H a xs → xs = vs) : ItOk K T (Itl K a) S ds :=
  ⟨fun H s => ⟨vs, s.seq hq, by rw [hd.length]; exact Nat.le_refl _⟩, fun i d hi H s => by
    obtain ⟨v, hv, hr⟩ := hd.get hi
    exact ⟨⟨vs, v, s.seq hq, hv⟩, fun x H' ⟨e, y⟩ => .inl ⟨e, by
      have := y vs (s.seq hq)
      rw [hv] at this; cases this
      exact hr⟩⟩⟩
end
/-- a list or tuple, frozen, walked -/
def iSeq (K : PySem.W.Frag) (tl : TE) : TI := fun σ H R => tl σ H fun x H1 => ∃ a, x = .ref a ∧ ((∃ xs, SqL K H1 a xs ∧ R (Itl K a) H1) ∨ (∃ xs, SqT K H1 a xs ∧ R (Itt K a) H1))
theorem pi_seq {X : Cx} {tg l : Expr} {tl : TE} (hl : PE X l tl) : PI X tg l (iSeq X.K tl) := by
  refine ⟨fun pins s σ H R I h => thn (hl.run pins s σ H _ I h) fun v s1 ⟨x, H1, I1, r1, a, e, q⟩ => ?_⟩
  subst e; cases r1
  have fp : ∀ b ∈ [s1.heap.objs.size], FpOk X pins H1 b := fun b hb => by
    obtain rfl : b = s1.heap.objs.size := by simpa using hb
    exact I1.fpOk (Nat.le_refl _) I1.fresh
  rcases q with ⟨xs, hq, q⟩ | ⟨xs, hq, q⟩
  · obtain ⟨its, rv, p, hz⟩ := I1.list hq
    exact wpAny_pyIter_list p.isList ⟨_, [s1.heap.objs.size], _, _, H1, rfl, I1.kept (t' := s1.toks) fun b o e => Heap.get?_push_of_some _ e, turn_list a _, ⟨_, Heap.get?_push_size _ rfl, rfl, rfl⟩, fp, q⟩
  · obtain ⟨its, rv, p, hz⟩ := I1.tuple hq
    exact wpAny_pyIter_tuple (show s1.heap.IsTuple a its.toArray from p) ⟨_, [s1.heap.objs.size], _, _, H1, rfl, I1.kept (t' := s1.toks) fun b o e => Heap.get?_push_of_some _ e, turn_tuple a _, ⟨_, Heap.get?_push_size _ rfl, rfl, rfl⟩, fp, q⟩
/-- a source: the items of frozen data -/
def iData (f : EF) : IF := fun ρ => (f ρ).bind fun p => match p.1 with
  | .fro d => (Res.of d.items).bind fun ds => .ok (ds, p.2)
  | .own d => (Res.of d.items).bind fun ds => .ok (ds, p.2)
  | _ => .bad
def pairs (ds : List D) : List D := ds.zipIdx.map fun p => .tup [.int p.2, p.1]
def iEnumD (f : AF) : IF := fun ρ => (f ρ).bind fun p => match p.1 with
  | [.fro d] => (Res.of d.items).bind fun ds => .ok (pairs ds, p.2)
  | _ => .bad
def intsD (lo : Int) (n : Nat) : List D := (List.range n).map fun i : Nat => .int (lo + (i : Int))
def small (i : Int) : Bool := decide (-(2 ^ 62) ≤ i) && decide (i < 2 ^ 62)
def iRange1 (f : AF) : IF := fun ρ => (f ρ).bind fun p => match p.1 with
  | [.fro (.int j)] => if small j then .ok (intsD 0 j.toNat, p.2) else .bad
  | _ => .bad
def iRange2 (f : AF) : IF := fun ρ => (f ρ).bind fun p => match p.1 with
  | [.fro (.int i), .fro (.int j)] => if small i && small j then .ok (intsD i (j - i).toNat, p.2) else .bad
  | _ => .bad
theorem small_of {i : Int} (h : small i = true) : -(2 ^ 62) ≤ i ∧ i < 2 ^ 62 := by
  unfold small at h
  rw [Bool.and_eq_true] at h
  exact ⟨of_decide_eq_true h.1, of_decide_eq_true h.2⟩
section
variable {K : PySem.W.Frag} {T : Tab} {S H : Hp} {a : Addr} {vs : List V} {ds : List D}
theorem itOk_seqL (hq : SqL K S a vs) (hd : DRs K T S vs ds) : ItOk K T (Itl K a) S ds :=
  ⟨fun H s => ⟨vs, s.seq hq, by rw [hd.length]; exact Nat.le_refl _⟩, fun i d hi H s => by
    obtain ⟨v, hv, hr⟩ := hd.get hi
    exact ⟨⟨vs, v, s.seq hq, hv⟩, fun x H' ⟨e, y⟩ => .inl ⟨e, by
      have := y vs (s.seq hq)
      rw [hv] at this; cases this
      exact hr⟩⟩⟩
theorem itOk_seqT (hq : SqT K S a vs) (hd : DRs K T S vs ds) : ItOk K T (Itt K a) S ds :=
  ⟨fun H s => ⟨vs, sqT_same s hq, by rw [hd.length]; exact Nat.le_refl _⟩, fun i d hi H s => by
    obtain ⟨v, hv, hr⟩ := hd.get hi
    exact ⟨⟨vs, v, sqT_same s hq, hv⟩, fun x H' ⟨e, y⟩ => .inl ⟨e, by
      have := y vs (sqT_same s hq)
      rw [hv] at this; cases this
      exact hr⟩⟩⟩
theorem itOk_range {lo : Int} {n : Nat} : ItOk K T (Itr lo n) S (intsD lo n) :=
  ⟨fun H s => by
    show n ≤ (intsD lo n).length
    unfold intsD
    rw [List.length_map, List.length_range]; exact Nat.le_refl _, fun i d hi H s => by
    unfold intsD at hi
    rw [List.getElem?_map, Option.map_eq_some_iff] at hi
    obtain ⟨j, hj, rfl⟩ := hi
    have hl := (List.getElem?_eq_some_iff.mp hj).1
    rw [List.length_range] at hl
    rw [List.getElem?_range hl] at hj
    cases hj
    exact ⟨hl, fun x H' ⟨e, y⟩ => .inl ⟨e, by rw [y]; exact .int _⟩⟩⟩
theorem pairs_get {i : Nat} {d : D} (h : (pairs ds)[i]? = some d) : ∃ e, ds[i]? = some e ∧ d = .tup [.int (i : Nat), e] := by
  unfold pairs at h
  rw [List.getElem?_map, Option.map_eq_some_iff] at h
  obtain ⟨p, hp, rfl⟩ := h
  rw [List.getElem?_zipIdx, Option.map_eq_some_iff] at hp
  obtain ⟨e, he, rfl⟩ := hp
  exact ⟨e, he, by simp⟩
theorem pairs_len : (pairs ds).length = ds.length := by unfold pairs; rw [List.length_map, List.length_zipIdx]
theorem itOk_enumL (hq : SqL K S a vs) (hd : DRs K T S vs ds) : ItOk K T (Ite K a) S (pairs ds) :=
  ⟨fun H s => ⟨vs, s.seq hq, by rw [pairs_len, hd.length]; exact Nat.le_refl _⟩, fun i d hi H s => by
    obtain ⟨e, he, rfl⟩ := pairs_get hi
    obtain ⟨v, hv, hr⟩ := hd.get he
    exact ⟨⟨vs, v, s.seq hq, hv⟩, fun x H' ⟨p, y, e1, e2, e3, e4⟩ => .inr ⟨p, _, _, e1, e2, e3, rfl, by
      have := e4 vs (s.seq hq)
      rw [hv] at this; cases this
      exact .cons (.int _) (.cons hr .nil)⟩⟩⟩
theorem itOk_enumT (hq : SqT K S a vs) (hd : DRs K T S vs ds) : ItOk K T (ItT K a vs.length) S (pairs ds) :=
  ⟨fun H s => ⟨vs, sqT_same s hq, rfl, by rw [pairs_len, hd.length]; exact Nat.le_refl _⟩, fun i d hi H s => by
    obtain ⟨e, he, rfl⟩ := pairs_get hi
    obtain ⟨v, hv, hr⟩ := hd.get he
    exact ⟨⟨vs, v, sqT_same s hq, hv, rfl⟩, fun x H' ⟨p, y, e1, e2, e3, e4⟩ => .inr ⟨p, _, _, e1, e2, e3, rfl, by
      have := e4 vs (sqT_same s hq)
      rw [hv] at this; cases this
      exact .cons (.int _) (.cons hr .nil)⟩⟩⟩
end
section
variable {X : Cx} {T : Tab} {tg e a b : Expr} {fe : EF} {f : AF} {p pos : Pos}
theorem ii_data (h : PE X e (SE X.K T fe)) : PI X tg e (SI X.K T (iData fe)) := (pi_seq h).imp fun σ H R ⟨π, F, S, ρ, ds, ρ', Re, e, q⟩ => by
  obtain ⟨⟨r, ρ1⟩, e1, e⟩ := Res.bind_eq e
  have key : ∀ (d : D), r.hold = .fro d → (Res.of d.items).bind (fun ds => Res.ok (ds, ρ1)) = .ok (ds, ρ') → SE X.K T fe σ H fun x H1 => ∃ a, x = .ref a ∧ ((∃ xs, SqL X.K H1 a xs ∧ R (Itl X.K a) H1) ∨ (∃ xs, SqT X.K H1 a xs ∧ R (Itt X.K a) H1)) := fun d hr e => by
    obtain ⟨ds', e2, e⟩ := Res.bind_eq e
    cases e
    refine ⟨π, F, S, ρ, r, _, Re, e1, fun S1 H1 v s1 R1 rv => ?_⟩
    obtain ⟨S2, s2, R2, hv⟩ := rv.hold R1
    rw [hr] at hv
    have hv : DR X.K T S2 v d := hv
    have e2 := Res.of_eq e2
    cases d <;> first | (cases e2; done) | skip
    · cases e2
      cases hv with
      | tup hq hd => exact ⟨_, rfl, .inr ⟨_, sqT_same R2.sS hq, q S2 H1 _ (s1.trans s2) R2 (itOk_seqT hq hd)⟩⟩
    · cases e2
      cases hv with
      | lst hq hd => exact ⟨_, rfl, .inl ⟨_, .of (R2.sS _ _ hq), q S2 H1 _ (s1.trans s2) R2 (itOk_seqL (.of hq) hd)⟩⟩
    · cases e2
      cases hv with
      | scr hq => exact ⟨_, rfl, .inl ⟨_, R2.sS.seq hq, q S2 H1 _ (s1.trans s2) R2 (itOk_seqL hq (drs_ints _))⟩⟩
  cases r with
  | bor i => cases e
  | fro d => exact key d rfl e
  | own d => exact key d rfl e
theorem ii_enum {elts : List Expr} {kk : Nat} {tpos : Pos} (hg : Gl X "enumerate") (hm : X.mg "enumerate" = none) (ha : PA X [e] (SA X.K T f)) (hs : starEach [e] X.env = [(false, eval e X.env)] := by rfl) :
    PI X (.Tuple elts kk tpos) (.Call (.Name "enumerate" p) [e] [] pos) (SI X.K T (iEnumD f)) := (pi_enumS hg hm ha hs).imp fun σ H R ⟨π, F, S, ρ, ds, ρ', Re, e, q⟩ => by
  obtain ⟨⟨rs, ρ1⟩, e1, e⟩ := Res.bind_eq e
  refine ⟨π, F, S, ρ, rs, ρ1, Re, e1, fun S1 H1 vs s1 R1 hv => ?_⟩
  match rs, e, hv with
  | [.fro d], e, .cons hv .nil =>
    obtain ⟨ds', e2, e⟩ := Res.bind_eq (show (Res.of d.items).bind (fun ds => Res.ok (pairs ds, ρ1)) = .ok (ds, ρ') from e)
    cases e
    have hv : DR X.K T S1 _ d := hv
    have e2 := Res.of_eq e2
    cases d <;> first | (cases e2; done) | skip
    · cases e2
      cases hv with
      | tup hq hd => exact ⟨_, _, rfl, .inl ⟨sqT_same R1.sS hq, q S1 H1 _ s1 R1 (itOk_enumT hq hd)⟩⟩
    · cases e2
      cases hv with
      | lst hq hd => exact ⟨_, _, rfl, .inr ⟨.of (R1.sS _ _ hq), q S1 H1 _ s1 R1 (itOk_enumL (.of hq) hd)⟩⟩
    · cases e2
      cases hv with
      | scr hq => exact ⟨_, _, rfl, .inr ⟨R1.sS.seq hq, q S1 H1 _ s1 R1 (itOk_enumL hq (drs_ints _))⟩⟩
theorem ii_range1 (hg : Gl X "range") (hm : X.mg "range" = none) (ha : PA X [a] (SA X.K T f)) (hs : starEach [a] X.env = [(false, eval a X.env)] := by rfl) : PI X tg (.Call (.Name "range" p) [a] [] pos) (SI X.K T (iRange1 f)) := (pi_range1 hg hm ha hs).imp fun σ H R ⟨π, F, S, ρ, ds, ρ', Re, e, q⟩ => by
  obtain ⟨⟨rs, ρ1⟩, e1, e⟩ := Res.bind_eq e
  refine ⟨π, F, S, ρ, rs, ρ1, Re, e1, fun S1 H1 vs s1 R1 hv => ?_⟩
  match rs, e, hv with
  | [.fro (.int j)], e, .cons hv .nil =>
    have e : (if small j then Res.ok (intsD 0 j.toNat, ρ1) else .bad) = .ok (ds, ρ') := e
    split at e
    · rename_i hj
      cases e
      cases (show DR X.K T S1 _ (.int j) from hv)
      obtain ⟨h1, h2⟩ := small_of hj
      exact ⟨j, rfl, h1, h2, q S1 H1 _ s1 R1 itOk_range⟩
    · cases e
theorem ii_range2 (hg : Gl X "range") (hm : X.mg "range" = none) (ha : PA X [a, b] (SA X.K T f)) (hs : starEach [a, b] X.env = [(false, eval a X.env), (false, eval b X.env)] := by rfl) (hs2 : starEach [b] X.env = [(false, eval b X.env)] := by rfl) : PI X tg (.Call (.Name "range" p) [a, b] [] pos) (SI X.K T (iRange2 f)) := (pi_range2 hg hm ha hs hs2).imp fun σ H R ⟨π, F, S, ρ, ds, ρ', Re, e, q⟩ => by
  obtain ⟨⟨rs, ρ1⟩, e1, e⟩ := Res.bind_eq e
  refine ⟨π, F, S, ρ, rs, ρ1, Re, e1, fun S1 H1 vs s1 R1 hv => ?_⟩
  match rs, e, hv with
  | [.fro (.int i), .fro (.int j)], e, .cons hv (.cons hw .nil) =>
    have e : (if small i && small j then Res.ok (intsD i (j - i).toNat, ρ1) else .bad) = .ok (ds, ρ') := e
    split at e
    · rename_i hj
      cases e
      cases (show DR X.K T S1 _ (.int i) from hv)
      cases (show DR X.K T S1 _ (.int j) from hw)
      rw [Bool.and_eq_true] at hj
      obtain ⟨h1, h2⟩ := small_of hj.1
      obtain ⟨h3, h4⟩ := small_of hj.2
      exact ⟨i, j, rfl, ⟨h1, h2, h3, h4⟩, q S1 H1 _ s1 R1 itOk_range⟩
    · cases e
end

/-! ### for -/
def forL (g : GF) (body : SF) : List D → Env → Res (Fl × Env)
  | [], ρ => .ok (.nx, ρ)
  | d :: ds, ρ => (g d ρ).bind fun ρ1 => (body ρ1).bind fun p => match p.1 with
    | .nx => forL g body ds p.2
    | .ct => forL g body ds p.2
    | .bk => .ok (.nx, p.2)
    | .ret r => .ok (.ret r, p.2)
def sFor (g : GF) (src : IF) (body : SF) : SF := fun ρ => (src ρ).bind fun p => forL g body p.1 p.2
section
variable {X : Cx} {T : Tab} {tg iter c : Expr} {body : List Stmt} {g : GF} {is : List Nat} {src : IF} {fb : SF} {fc : BF} {pos : Pos}
/-- an item has come -/
theorem came {K : PySem.W.Frag} {π σ : L2.St} {F S H H' : Hp} {ρ : Env} {x : V} {d : D} (R : Rel K T π F S ρ σ H)
    (h : Came K T S H x d H') :
    ∃ S', Same S S' ∧ Rel K T π F S' ρ σ H' ∧ DR K T S' x d ∧ ∀ b o, H b = some o → S b = none → S' b = none := by
  rcases h with ⟨rfl, h⟩ | ⟨p, vs, es, rfl, hp, rfl, rfl, h⟩
  · exact ⟨S, Same.refl S, R, h, fun _ _ _ z => z⟩
  · obtain ⟨s, R', q⟩ := new_tup R h hp
    exact ⟨_, s, R', q, fun b o e z => by rw [upd_ne (ne_of_none e hp)]; exact z⟩
theorem ss_for (hp : PassesOwn (model X.prog X.w) X.A X.env X.xe) (hc : X.calm = true) (hi : PI X tg iter (SI X.K T src)) (hg : PG X tg (SG X.K T g is)) (hb : PSs X body (SS X.K T fb))
    (hs : ∀ x, foldedSetIterable iter X.env x = pure x := by intro _; rfl) : PS X (.For tg iter body [] pos) (SS X.K T (sFor g src fb)) := (ps_for hp hc hi hg hb hs).imp fun E σ H ⟨π, F, S, ρ, fl, ρ', Re, e, q⟩ => by
  obtain ⟨⟨ds, ρ1⟩, e1, e⟩ := Res.bind_eq e
  refine ⟨π, F, S, ρ, ds, ρ1, Re, e1, fun S0 H0 J s0 R0 ok => ?_⟩
  refine ⟨fun i m σ H => m = ds.length - i ∧ i ≤ ds.length ∧ ∃ S1 ρ2, Same S0 S1 ∧ Rel X.K T π F S1 ρ2 σ H ∧ forL g fb (ds.drop i) ρ2 = .ok (fl, ρ') ∧ FlW X.K T π F S1 ρ' E fl, ⟨_, rfl, Nat.zero_le _, S0, ρ1, Same.refl _, R0, e, q.mono s0⟩, ?_⟩
  rintro i m σ1 H1 ⟨rfl, hi, S1, ρ2, s1, R1, e2, q2⟩
  by_cases hl : i < ds.length
  · refine .inr ?_
    have hd : ds[i]? = some ds[i] := List.getElem?_eq_getElem hl
    obtain ⟨go, yl⟩ := ok.2 i _ hd H1 (s1.trans R1.sS)
    refine ⟨go, fun σ' H' => ∃ S3 ρ3, Same S0 S3 ∧ Rel X.K T π F S3 ρ3 σ' H' ∧ forL g fb (ds.drop (i + 1)) ρ3 = .ok (fl, ρ') ∧ FlW X.K T π F S3 ρ' E fl, fun σ' H' n => ⟨_, by omega, rfl, hl, n⟩, fun x H' hy => ?_⟩
    rw [List.drop_eq_getElem_cons hl] at e2
    obtain ⟨ρ3, e3, e4⟩ := Res.bind_eq e2
    obtain ⟨⟨fl4, ρ4⟩, e5, e6⟩ := Res.bind_eq e4
    have hx := (yl x H' hy).mono s1
    obtain ⟨S2, s2, R2, dx, _⟩ := came R1 hx
    refine ⟨π, F, S2, ρ2, ds[i], ρ3, R2, dx, e3, fun σ2 R3 _ => ⟨π, F, S2, ρ3, fl4, ρ4, R3, e5, ?_⟩⟩
    cases fl4 with
    | nx => exact fun S' σ' H' s' R' => ⟨S', ρ4, s1.trans (s2.trans s'), R', e6, q2.mono (s2.trans s')⟩
    | ct => exact fun S' σ' H' s' R' => ⟨S', ρ4, s1.trans (s2.trans s'), R', e6, q2.mono (s2.trans s')⟩
    | bk => cases e6; exact fun S' σ' H' s' R' => q2 S' σ' H' (s2.trans s') R'
    | ret r => cases e6; exact fun S' σ' H' v s' R' rv => q2 S' σ' H' v (s2.trans s') R' rv
  · have ei : i = ds.length := by omega
    subst ei
    rw [List.drop_length] at e2
    cases e2
    exact .inl ⟨ok.1 H1 (s1.trans R1.sS), q2 S1 σ1 H1 (Same.refl _) R1⟩

/-! ### while -/
def sWhile (c : BF) (body : SF) : Nat → SF
  | 0, _ => .bad
  | n + 1, ρ => (c ρ).bind fun p => if p.1 = true then (body p.2).bind fun q => match q.1 with
      | .nx => sWhile c body n q.2
      | .ct => sWhile c body n q.2
      | .bk => .ok (.nx, q.2)
      | .ret r => .ok (.ret r, q.2)
    else .ok (.nx, p.2)
theorem ss_while (n : Nat) (hp : PassesOwn (model X.prog X.w) X.A X.env X.xe) (hc : PT X c (ST X.K T fc)) (hb : PSs X body (SS X.K T fb)) : PS X (.While c body [] pos) (SS X.K T (sWhile fc fb n)) := (ps_while hp hc hb).imp fun D σ H ⟨π, F, S, ρ, fl, ρ', Re, e, q⟩ => by
  refine ⟨fun m σ H => ∃ S1 ρ2, Rel X.K T π F S1 ρ2 σ H ∧ sWhile fc fb m ρ2 = .ok (fl, ρ') ∧ FlW X.K T π F S1 ρ' D fl, ⟨n, S, ρ, Re, e, q⟩, ?_⟩
  rintro m σ1 H1 ⟨S1, ρ2, R1, e2, q2⟩
  cases m with
  | zero => cases e2
  | succ m =>
    obtain ⟨⟨b, ρ3⟩, e3, e4⟩ := Res.bind_eq e2
    refine ⟨π, F, S1, ρ2, b, ρ3, R1, e3, fun S2 H2 s2 R2 => ?_⟩
    cases b with
    | false =>
      cases e4
      exact q2 S2 σ1 H2 s2 R2
    | true =>
      obtain ⟨⟨fl4, ρ4⟩, e5, e6⟩ := Res.bind_eq (show (fb ρ3).bind _ = _ from e4)
      refine ⟨fun σ' H' => ∃ S3 ρ5, Rel X.K T π F S3 ρ5 σ' H' ∧ sWhile fc fb m ρ5 = .ok (fl, ρ') ∧ FlW X.K T π F S3 ρ' D fl, fun σ' H' h => ⟨m, Nat.lt_succ_self _, h⟩, π, F, S2, ρ3, fl4, ρ4, R2, e5, ?_⟩
      cases fl4 with
      | nx => exact fun S' σ' H' s' R' => ⟨S', ρ4, R', e6, q2.mono (s2.trans s')⟩
      | ct => exact fun S' σ' H' s' R' => ⟨S', ρ4, R', e6, q2.mono (s2.trans s')⟩
      | bk => cases e6; exact fun S' σ' H' s' R' => q2 S' σ' H' (s2.trans s') R'
      | ret r => cases e6; exact fun S' σ' H' v s' R' rv => q2 S' σ' H' v (s2.trans s') R' rv
end

/-! ### comprehensions -/
theorem wipe_in {u : Nat} : ∀ {τ : L2.St} {ws : List Nat}, u ∈ ws → (wipe τ ws)[u]? = if u < τ.length then some none else none
  | τ, [], h => by cases h
  | τ, w :: ws, h => by
    show ((wipe τ ws).set w none)[u]? = _
    by_cases hw : w = u
    · subst hw
      rw [List.getElem?_set]
      simp [wipe_length]
    · rw [List.getElem?_set_ne hw]
      exact wipe_in ((List.mem_cons.mp h).resolve_left fun z => hw z.symm)
theorem wipe_wipe {σ : L2.St} {vs : List Nat} : wipe (wipe σ vs) vs = wipe σ vs := by
  apply List.ext_getElem?
  intro k
  by_cases hk : k ∈ vs
  · rw [wipe_in hk, wipe_in hk, wipe_length]
  · rw [wipe_out hk]

def wipeE (ρ : Env) : List Nat → Env
  | [] => ρ
  | v :: vs => (wipeE ρ vs).set v .un
def RV.take : RV → Option D
  | .fro d => some d
  | .own d => some d
  | .bor _ => none
def lcL (g : GF) (vs : List Nat) (tt : BF) (te : EF) : List D → Env → List D → Res (List D × Env)
  | [], ρ, acc => .ok (acc, ρ)
  | d :: ds, ρ, acc => (g d ρ).bind fun ρ1 => (tt ρ1).bind fun p => if p.1 = true then
      (te p.2).bind fun q => (Res.of q.1.take).bind fun y => if acc.length < sizeLine then lcL g vs tt te ds (wipeE q.2 vs) (acc ++ [y]) else .bad
    else lcL g vs tt te ds (wipeE p.2 vs) acc
def eLc (g : GF) (vs : List Nat) (src : IF) (tt : BF) (te : EF) : EF := fun ρ => (src ρ).bind fun p => (lcL g vs tt te p.1 (wipeE p.2 vs) []).bind fun q => .ok (.own (.lst q.1), q.2)
def bYes : BF := fun ρ => .ok (true, ρ)
section
variable {K : PySem.W.Frag} {T : Tab} {π σ : L2.St} {F S S' H H' : Hp} {ρ ρ' : Env} {a : Addr} {v : V} {d : D} {r : RV}
theorem wipeE_length (ρ : Env) : ∀ vs : List Nat, (wipeE ρ vs).length = ρ.length
  | [] => rfl
  | v :: vs => by unfold wipeE; rw [List.length_set, wipeE_length ρ vs]
theorem wipeE_get : ∀ {vs : List Nat} {i : Nat} {c : Cell}, (wipeE ρ vs)[i]? = some c → c = .un ∨ (ρ[i]? = some c ∧ i ∉ vs)
  | [], i, c, h => .inr ⟨h, by simp⟩
  | v :: vs, i, c, h => by
    rcases getElem?_set_cases h with ⟨rfl, rfl⟩ | ⟨n, h⟩
    · exact .inl rfl
    · rcases wipeE_get h with z | ⟨z, m⟩
      · exact .inl z
      · exact .inr ⟨z, by simp only [List.mem_cons, not_or]; exact ⟨n, m⟩⟩
/-- the names of a block forgotten -/
theorem Rel.wipe {τ : L2.St} (R : Rel K T π F S ρ σ H) (vs : List Nat) (hl : τ.length = σ.length) (h : ∀ i, i ∉ vs → τ[i]? = σ[i]?) : Rel K T π F S (wipeE ρ vs) τ H := by
  refine ⟨R.sS, R.sF, R.dj, R.nS, R.nF, R.tb, by rw [wipeE_length, hl]; exact R.len, fun i c hc => ?_, fun i j b ci cj hi hj mi mj ei ej => ?_⟩
  · rcases wipeE_get hc with rfl | ⟨hc, n⟩
    · trivial
    · rw [h i n]; exact R.sl i c hc
  · rcases wipeE_get hi with rfl | ⟨hi, n1⟩
    · cases mi
    · rcases wipeE_get hj with rfl | ⟨hj, n2⟩
      · cases mj
      · exact R.ds i j b ci cj hi hj mi mj (by rw [← h i n1]; exact ei) (by rw [← h j n2]; exact ej)
theorem Apart.wipe {τ : L2.St} (A : Apart ρ σ a) (vs : List Nat) (h : ∀ i, i ∉ vs → τ[i]? = σ[i]?) : Apart (wipeE ρ vs) τ a := fun i c hc m e => by
  rcases wipeE_get hc with rfl | ⟨hc, n⟩
  · cases m
  · exact A i c hc m (by rw [← h i n]; exact e)
theorem RVR.take (R : Rel K T π F S ρ σ H) (h : RVR K T F S H ρ σ v r) (e : r.take = some d) : ∃ S', Same S S' ∧ Rel K T π F S' ρ σ H ∧ DR K T S' v d := by
  cases r with
  | bor i => cases e
  | fro d' => cases e; exact ⟨S, Same.refl S, R, h⟩
  | own d' => cases e; obtain ⟨S', s, R', hv⟩ := h.hold R; exact ⟨S', s, R', hv⟩
end
/-- a turn's end: the new item is put to the list at A -/
theorem lc_put {K : PySem.W.Frag} {T : Tab} {π σ : L2.St} {F S H : Hp} {ρ : Env} {A : Addr} {y : V} {d : D} {accV : List V} {acc : List D} (nF : F A = none) (R : Rel K T π (upd F A (.lst accV)) S ρ σ H) (ha : DRs K T S accV acc) (hy : DR K T S y d) :
    Rel K T π F S ρ σ (upd H A (.lst (accV ++ [y]))) ∧ S A = none ∧ Apart ρ σ A ∧ H A = some (.lst accV) ∧ DRs K T S (accV ++ [y]) (acc ++ [d]) := by
  obtain ⟨R1, hA, nS, ap⟩ := Rel.unlend nF R
  refine ⟨R1.step (Same.refl S) (fun b x q => ?_) (fun b x q => ?_) R1.dj R1.nS (tabs_keep (S := S) (d := .lst acc) R1.tb ⟨accV, hA, ha⟩ fun b hb => upd_ne hb) fun i c b hc m e => ?_, nS, ap, hA, ha.append (.one hy)⟩
  · rw [upd_ne (ne_of_none q nS)]; exact R1.sS _ _ q
  · rw [upd_ne (ne_of_none q nF)]; exact R1.sF _ _ q
  · exact ⟨upd_ne fun z => ap i c hc m (by rw [e, z]), (R1.ownAt hc m e).1⟩
section
variable {X : Cx} {T : Tab} {elt tg iter : Expr} {ifs : List Expr} {scope : Scope} {own : List (Str × Nat)} {pos : Pos} {g : GF} {is : List Nat} {src : IF} {ft : BF} {fe : EF}
theorem lc_run {K : PySem.W.Frag} {vs : List Nat} (hvs : ∀ i ∈ is, i ∈ vs) {σ : L2.St} {H : Hp} {Q : VK} (h : SE K T (eLc g vs src ft fe) σ H Q) : tLc (SI K T src) (SG K T g is) (ST K T ft) (SE K T fe) vs σ H Q := by
  obtain ⟨π, F, S, ρ, r, ρ', Re, e, q⟩ := h
  obtain ⟨⟨ds, ρ1⟩, e1, e⟩ := Res.bind_eq e
  obtain ⟨⟨out, ρ2⟩, e2, e⟩ := Res.bind_eq e
  cases e
  refine ⟨π, F, S, ρ, ds, ρ1, Re, e1, fun S0 H0 J s0 R0 ok => ?_⟩
  intro A hA
  have hw : ∀ (τ : L2.St) i, i ∉ vs → (wipe τ vs)[i]? = τ[i]? := fun τ i hi => wipe_out hi
  let W : Nat → Nat → Hp → Prop := fun i m H => m = ds.length - i ∧ i ≤ ds.length ∧ ∃ S1 ρ3 accV acc, Same S0 S1 ∧ Rel K T π F S1 ρ3 (wipe σ vs) H ∧ H A = some (.lst accV) ∧ S1 A = none ∧ F A = none ∧ Apart ρ3 (wipe σ vs) A ∧ DRs K T S1 accV acc ∧
    (∀ i ∈ vs, ∀ c, ρ3[i]? = some c → c = .un) ∧ lcL g vs ft fe (ds.drop i) ρ3 acc = .ok (out, ρ2)
  have wun : ∀ (τ : Env), ∀ i ∈ vs, ∀ c, (wipeE τ vs)[i]? = some c → c = .un := fun τ i hi c hc => by
    rcases wipeE_get hc with z | ⟨_, n⟩
    · exact z
    · exact absurd hi n
  refine ⟨W, ⟨_, rfl, Nat.zero_le _, S0, wipeE ρ1 vs, [], [], Same.refl _, (R0.alloc hA).wipe vs (wipe_length _ _) (hw σ), upd_same, same_none R0.sS hA, same_none R0.sF hA, (R0.apart hA).wipe vs (hw σ), .nil, wun ρ1, e2⟩, ?_⟩
  rintro i m H1 ⟨rfl, hi, S1, ρ3, accV, acc, s1, R1, hA1, nS, nF, ap, hacc, hun, e3⟩
  by_cases hl : i < ds.length
  · refine .inr ?_
    have hd : ds[i]? = some ds[i] := List.getElem?_eq_getElem hl
    obtain ⟨go, yl⟩ := ok.2 i _ hd H1 (s1.trans R1.sS)
    refine ⟨go, fun H' => W (i + 1) (ds.length - (i + 1)) H', fun H' h => ⟨_, by omega, h⟩, fun x H' hy => ?_⟩
    rw [List.drop_eq_getElem_cons hl] at e3
    obtain ⟨ρ4, e4, e5⟩ := Res.bind_eq e3
    obtain ⟨⟨b, ρ5⟩, e6, e7⟩ := Res.bind_eq e5
    have hx := (yl x H' hy).mono s1
    have RL := R1.lend (d := .lst acc) ⟨nS, nF, accV, hA1, hacc⟩ ap hA1
    obtain ⟨S2, s2, R2, dx, _⟩ := came RL hx
    refine ⟨π, _, S2, ρ3, ds[i], ρ4, R2, dx, e4, fun σ2 R3 w => ?_⟩
    have w2 := w vs hvs
    rw [wipe_wipe] at w2
    refine ⟨w2, ?_⟩
    have hσ : ∀ k, k ∉ vs → (wipe σ vs)[k]? = σ2[k]? := fun k hk => by rw [← w2]; exact hw σ2 k hk
    have hl2 : (wipe σ vs).length = σ2.length := by rw [← w2, wipe_length]
    refine ⟨π, _, S2, ρ4, b, ρ5, R3, e6, fun S3 H3 s3 R4 => ?_⟩
    cases b with
    | false =>
      refine ⟨rfl, hl, S3, wipeE ρ5 vs, accV, acc, s1.trans (s2.trans s3), ?_, ?_, ?_, nF, ?_, hacc.mono (s2.trans s3), wun ρ5, e7⟩
      · exact (Rel.unlend nF R4).1.wipe vs hl2 hσ
      · exact (Rel.unlend nF R4).2.1
      · exact (Rel.unlend nF R4).2.2.1
      · exact (Rel.unlend nF R4).2.2.2.wipe vs hσ
    | true =>
      obtain ⟨⟨ry, ρ6⟩, e8, e9⟩ := Res.bind_eq (show (fe ρ5).bind _ = _ from e7)
      obtain ⟨y, e10, e11⟩ := Res.bind_eq e9
      refine ⟨π, _, S3, ρ5, ry, ρ6, R4, e8, fun S4 H4 v s4 R5 rv => ?_⟩
      obtain ⟨S5, s5, R6, hy⟩ := rv.take R5 (Res.of_eq e10)
      obtain ⟨R7, nS5, ap5, hA5, hacc5⟩ := lc_put nF R6 (hacc.mono (s2.trans (s3.trans (s4.trans s5)))) hy
      have e11 : (if acc.length < sizeLine then lcL g vs ft fe (ds.drop (i + 1)) (wipeE ρ6 vs) (acc ++ [y]) else .bad) = .ok (out, ρ2) := e11
      split at e11
      · rename_i hz
        refine ⟨accV, hA5, by rw [hacc.length]; exact hz, rfl, hl, S5, wipeE ρ6 vs, accV ++ [v], acc ++ [y], s1.trans (s2.trans (s3.trans (s4.trans s5))), R7.wipe vs hl2 hσ, upd_same, nS5, nF, ap5.wipe vs hσ, hacc5, wun ρ6, e11⟩
      · cases e11
  · have ei : i = ds.length := by omega
    subst ei
    rw [List.drop_length] at e3
    cases e3
    have R2 : Rel K T π F S1 ρ2 σ H1 := by
      refine ⟨R1.sS, R1.sF, R1.dj, R1.nS, R1.nF, R1.tb, by rw [R1.len, wipe_length], fun k c hc => ?_, fun j k b cj ck hj hk mj mk ej ek => ?_⟩
      · by_cases hk : k ∈ vs
        · rw [hun k hk c hc]; trivial
        · rw [← hw σ k hk]; exact R1.sl k c hc
      · have nin : ∀ {k : Nat} {c : Cell}, ρ2[k]? = some c → c.mut = true → k ∉ vs := fun h m z => by
          rw [hun _ z _ h] at m; cases m
        exact R1.ds j k b cj ck hj hk mj mk (by rw [hw σ j (nin hj mj)]; exact ej) (by rw [hw σ k (nin hk mk)]; exact ek)
    refine .inl ⟨ok.1 H1 (s1.trans R1.sS), q S1 H1 _ (s0.trans s1) R2 ⟨A, rfl, ⟨nS, nF, accV, hA1, hacc⟩, fun k c hc m z => ?_⟩⟩
    have nin : k ∉ vs := fun y => by rw [hun _ y _ hc] at m; cases m
    exact ap k c hc m (by rw [hw σ k nin]; exact z)
theorem ee_lc (hc : X.calm = true) (hN : X.N.Nodup) (hi : PI X tg iter (SI X.K T src)) (ok : BlkOk X.N X.env.scope scope own)
    (hg : ∀ (s : Shared) (H : Hp) (C : Addr) (cl : List (Str × Addr)) (fp : List Addr), PG (X.blk s H scope (compEnvC scope cl C X.env) fp) tg (SG X.K T g is)) (ht : ∀ (s : Shared) (H : Hp) (C : Addr) (cl : List (Str × Addr)) (fp : List Addr), PTs (X.blk s H scope (compEnvC scope cl C X.env) fp) ifs (ST X.K T ft))
    (he : ∀ (s : Shared) (H : Hp) (C : Addr) (cl : List (Str × Addr)) (fp : List Addr), PE (X.blk s H scope (compEnvC scope cl C X.env) fp) elt (SE X.K T fe)) (hvs : ∀ i ∈ is, i ∈ own.map (·.2) := by decide) (hs : ∀ x, foldedSetIterable iter X.env x = pure x := by intro _; rfl) :
    PE X (.ListComp elt [⟨tg, iter, ifs, 0⟩] scope pos) (SE X.K T (eLc g (own.map (·.2)) src ft fe)) := (pe_lc hc hN hi ok hg ht he hs).imp fun _ _ _ q => lc_run hvs q
theorem ss_setLc {i : Nat} {y : Str} {py spos : Pos} (hc : X.calm = true) (hN : X.N.Nodup) (hy : X.N[i]? = some y) (hyl : X.env.scope.names.lookup y = some .local)
    (hsw : swapsWith (.ListComp elt [⟨tg, iter, ifs, 0⟩] scope pos) (some (.Name y py)) spos.line X.env = pure true) (hi : PI X tg iter (SI X.K T src)) (ok : BlkOk X.N X.env.scope scope own)
    (hg : ∀ (s : Shared) (H : Hp) (C : Addr) (cl : List (Str × Addr)) (fp : List Addr), PG (X.blk s H scope (compEnvC scope cl C X.env) fp) tg (SG X.K T g is)) (ht : ∀ (s : Shared) (H : Hp) (C : Addr) (cl : List (Str × Addr)) (fp : List Addr), PTs (X.blk s H scope (compEnvC scope cl C X.env) fp) ifs (ST X.K T ft))
    (he : ∀ (s : Shared) (H : Hp) (C : Addr) (cl : List (Str × Addr)) (fp : List Addr), PE (X.blk s H scope (compEnvC scope cl C X.env) fp) elt (SE X.K T fe)) (hvs : ∀ i ∈ is, i ∈ own.map (·.2) := by decide) (hs : ∀ x, foldedSetIterable iter X.env x = pure x := by intro _; rfl) :
    PS X (.Assign [.Name y py] (.ListComp elt [⟨tg, iter, ifs, 0⟩] scope pos) spos) (SS X.K T (sSet i (eLc g (own.map (·.2)) src ft fe))) := by
  have h := ps_setLc hc hN hy hyl hsw hi ok hg ht he hs
  refine ss_asg_name (h.imp fun D σ H q => ?_)
  exact lc_run hvs q
theorem ts_nil : PTs X [] (ST X.K T bYes) := ⟨fun pins s σ H Q I ⟨π, F, S, ρ, b, ρ', R, e, q⟩ => pts_nil.run pins s σ H Q I (by
  cases e
  exact q S H (Same.refl S) R)⟩
theorem ts_one {c : Expr} {t : BF} (h : PT X c (ST X.K T t)) : PTs X [c] (ST X.K T t) := pts_one h
end
end Dt
end

section
set_option Elab.async false
set_option linter.all false
set_option maxRecDepth 100000
set_option maxHeartbeats 4000000
set_option autoImplicit false
namespace Dt
open PySem PySem.Spec PyProof.Rows L2

/-! ### what a def promises -/
abbrev Fm := List Cell → Res (RV × List Cell)
def RV.made : RV → Bool
  | .bor _ => false
  | _ => true
def SpF (K : PySem.W.Frag) (T : Tab) (f : Fm) : Sp := fun vs H Q _ => ∃ F S cs r cs', Rel K T (vs.map some) F S cs (vs.map some) H ∧ f cs = .ok (r, cs') ∧ r.made = true ∧
  ∀ S' H' v, Same S S' → Rel K T (vs.map some) F S' cs' (vs.map some) H' → RVR K T F S' H' cs' (vs.map some) v r → Q v H'
def outC : Cell → Cell
  | .brw d => .brw d
  | _ => .un
def runF (n m : Nat) (body : SF) : Fm := fun cs => if cs.length = n then (body (cs ++ List.replicate m .un)).bind fun p => if n ≤ p.2.length then (match p.1 with
    | .nx => .ok (.fro .non, (p.2.take n).map outC)
    | .ret (.fro d) => .ok (.fro d, (p.2.take n).map outC)
    | .ret (.own d) => .ok (.own d, (p.2.take n).map outC)
    | _ => .bad) else .bad else .bad
section
variable {K : PySem.W.Frag} {T : Tab} {π σ : L2.St} {F S S' H H' : Hp} {ρ ρ' : Env} {a : Addr} {v : V} {d : D} {r : RV} {vs : List V} {N : List Str}
theorem start_pre (hl : vs.length ≤ N.length) {i : Nat} (hi : i < vs.length) : (L2.start N vs)[i]? = (vs.map some)[i]? := by
  unfold L2.start
  rw [List.getElem?_append_left (by simpa using hi)]
theorem Rel.pad (R : Rel K T (vs.map some) F S ρ (vs.map some) H) (hl : vs.length ≤ N.length) : Rel K T (L2.start N vs) F S (ρ ++ List.replicate (N.length - vs.length) .un) (start N vs) H := by
  have len : ρ.length = vs.length := by rw [R.len, List.length_map]
  have get : ∀ {i : Nat} {c : Cell}, (ρ ++ List.replicate (N.length - vs.length) Cell.un)[i]? = some c → c = .un ∨ (ρ[i]? = some c ∧ i < vs.length) := fun {i c} h => by
    by_cases hi : i < ρ.length
    · rw [List.getElem?_append_left hi] at h
      exact .inr ⟨h, by rw [← len]; exact hi⟩
    · rw [List.getElem?_append_right (by omega), List.getElem?_replicate] at h
      split at h
      · cases h; exact .inl rfl
      · cases h
  refine ⟨R.sS, R.sF, R.dj, R.nS, R.nF, R.tb, ?_, fun i c hc => ?_, fun i j b ci cj hi hj mi mj ei ej => ?_⟩
  · unfold L2.start
    rw [List.length_append, List.length_append, List.length_replicate, List.length_replicate, List.length_map, len]
  · rcases get hc with rfl | ⟨hc, hi⟩
    · trivial
    · have q := R.sl i c hc
      rw [start_pre hl hi]
      cases c with
      | brw d => obtain ⟨b, e1, e2, e3⟩ := q; exact ⟨b, e1, by rw [start_pre hl hi]; exact e2, e3⟩
      | un => trivial
      | fro d => exact q
      | own d => exact q
  · rcases get hi with rfl | ⟨hi, li⟩
    · cases mi
    · rcases get hj with rfl | ⟨hj, lj⟩
      · cases mj
      · rw [start_pre hl li] at ei
        rw [start_pre hl lj] at ej
        exact R.ds i j b ci cj hi hj mi mj ei ej
theorem outs_get {n i : Nat} {c : Cell} (h : ((ρ.take n).map outC)[i]? = some c) : c = .un ∨ ∃ d, c = .brw d ∧ ρ[i]? = some (.brw d) ∧ i < n := by
  rw [List.getElem?_map, Option.map_eq_some_iff] at h
  obtain ⟨c', h1, rfl⟩ := h
  have hi : i < n := by
    have := (List.getElem?_eq_some_iff.mp h1).1
    rw [List.length_take] at this; omega
  rw [List.getElem?_take_of_lt hi] at h1
  cases c' with
  | brw d => exact .inr ⟨d, rfl, h1, hi⟩
  | _ => exact .inl rfl
theorem brw_at (R : Rel K T (L2.start N vs) F S ρ σ H) (hl : vs.length ≤ N.length) {i : Nat} (h : ρ[i]? = some (.brw d)) (hi : i < vs.length) : ∃ b, σ[i]? = some (some (V.ref b)) ∧ (vs.map some)[i]? = some (some (V.ref b)) ∧ Own K T F S H b d := by
  obtain ⟨b, e1, e2, e3⟩ := R.sl i _ h
  rw [start_pre hl hi] at e2
  exact ⟨b, e1, e2, e3⟩
theorem Rel.outs (R : Rel K T (L2.start N vs) F S ρ σ H) (hl : vs.length ≤ N.length) (hn : vs.length ≤ ρ.length) : Rel K T (vs.map some) F S ((ρ.take vs.length).map outC) (vs.map some) H := by
  refine ⟨R.sS, R.sF, R.dj, R.nS, R.nF, R.tb, by rw [List.length_map, List.length_map, List.length_take]; omega, fun i c hc => ?_, fun i j b ci cj hi hj mi mj ei ej => ?_⟩
  · rcases outs_get hc with rfl | ⟨d, rfl, hc, hi⟩
    · trivial
    · obtain ⟨b, e1, e2, e3⟩ := brw_at R hl hc hi
      exact ⟨b, e2, e2, e3⟩
  · rcases outs_get hi with rfl | ⟨d, rfl, hi, li⟩
    · cases mi
    · rcases outs_get hj with rfl | ⟨d', rfl, hj, lj⟩
      · cases mj
      · obtain ⟨b1, e1, e2, _⟩ := brw_at R hl hi li
        obtain ⟨b2, e3, e4, _⟩ := brw_at R hl hj lj
        rw [ei] at e2; cases e2
        rw [ej] at e4; cases e4
        exact R.ds i j _ _ _ hi hj rfl rfl e1 e3
theorem RVR.outs (R : Rel K T (L2.start N vs) F S ρ σ H) (hl : vs.length ≤ N.length) (h : RVR K T F S H ρ σ v r) (m : r.made = true) : RVR K T F S H ((ρ.take vs.length).map outC) (vs.map some) v r := by
  cases r with
  | bor i => cases m
  | fro d => exact h
  | own d =>
    obtain ⟨a, rfl, o, ap⟩ := h
    refine ⟨a, rfl, o, fun i c hc mc e => ?_⟩
    rcases outs_get hc with rfl | ⟨d, rfl, hc, hi⟩
    · cases mc
    · obtain ⟨b, e1, e2, _⟩ := brw_at R hl hc hi
      rw [e] at e2; cases e2
      exact ap i _ hc rfl e1
end
section
variable {P : Program} {w : World} {K : PySem.W.Frag} {T : Tab} {mg : Str → Option Value} {base : Heap}
theorem def_ok {x qual : Str} {st : Stmt} {f : Addr} {fd : FuncData} {N ps : List Str} {k : Nat} {fb : SF} {n m : Nat} (Fu : Fun K x qual st f fd) (Sc : FnScope N ps (defScope st)) (hn : ps.length = n) (hm : N.length = n + m)
    (body : ∀ (cdv : Value) (A : Around) (outer : List PySem.Env) (s : Shared) (H : Hp) (E : XK), Room k (A.deeper (envOfC qual (defScope st) s.heap.objs.size f cdv)) → PSs (cxOf CX0 P w K mg base N qual (defScope st) f cdv A outer s H E).nox (defBody st) (SS K T fb)) :
    FnOk P w K mg base CX0 (k + 1) f fd ps (SpF K T (runF n m fb)) := by
  refine Fu.ok Sc (fun vs H Q E h => ?_) (fun cdv A outer s H vs Q E hr h => ⟨_, body cdv A outer s H E hr, ?_⟩)
  · obtain ⟨F, S, cs, r, cs', R, e, _⟩ := h
    unfold runF at e
    split at e
    · rename_i hl
      rw [hn, ← hl, R.len, List.length_map]
    · cases e
  · obtain ⟨F, S, cs, r, cs', R, e, mr, q⟩ := h
    unfold runF at e
    split at e
    · rename_i hl
      obtain ⟨⟨fl, ρ'⟩, e1, e⟩ := Res.bind_eq e
      split at e
      · rename_i hp
        have hv : vs.length = n := by rw [← hl, R.len, List.length_map]
        have hvN : vs.length ≤ N.length := by omega
        have em : m = N.length - vs.length := by omega
        refine ⟨L2.start N vs, F, S, cs ++ List.replicate (N.length - vs.length) .un, fl, ρ', R.pad hvN, by rw [← em]; exact e1, ?_⟩
        subst hv
        cases fl with
        | nx =>
          cases e
          exact fun S' σ' H' s' R' => q S' H' .non s' (R'.outs hvN hp) .non
        | ret ro =>
          cases ro with
          | fro d => cases e; exact fun S' σ' H' v s' R' rv => q S' H' v s' (R'.outs hvN hp) (rv.outs R' hvN rfl)
          | own d => cases e; exact fun S' σ' H' v s' R' rv => q S' H' v s' (R'.outs hvN hp) (rv.outs R' hvN rfl)
          | bor i => cases e
        | bk => cases e
        | ct => cases e
      · cases e
    · cases e
end

/-! ### calls of a def -/
theorem Rel.notab {K : PySem.W.Frag} {T : Tab} {π σ : L2.St} {F S H : Hp} {ρ : Env} {a : Addr} (R : Rel K T π F S ρ σ H) {i : Nat} {c : Cell} (hc : ρ[i]? = some c) (m : c.mut = true) (e : σ[i]? = some (some (V.ref a))) (ps : Array Value) : H a ≠ some (.tbl ps) := by
  have q := R.sl i c hc
  cases c with
  | un => cases m
  | fro _ => cases m
  | own d0 => obtain ⟨b, q1, q2⟩ := q; rw [e] at q1; cases q1; exact q2.2.2.notab ps
  | brw d0 => obtain ⟨b, q1, _, q2⟩ := q; rw [e] at q1; cases q1; exact q2.2.2.notab ps
/-- what a callee is to leave: all but the frozen and what is passed on -/
def isTab : Option HO → Bool
  | some (.tbl _) => true
  | _ => false
def others (S H : Hp) (P : Addr → Bool) : Hp := fun b => if (S b).isSome || P b || isTab (H b) then none else H b
section
variable {K : PySem.W.Frag} {T : Tab} {π σ τ : L2.St} {F S S' H H' : Hp} {ρ ρ' : Env} {a : Addr} {v : V} {d : D} {r : RV} {P : Addr → Bool} {vs : List V} {ds : List D}
theorem others_some {b : Addr} {o : HO} (h : others S H P b = some o) : S b = none ∧ P b = false ∧ H b = some o := by
  unfold others at h
  split at h
  · cases h
  · rename_i z
    rw [Bool.or_eq_true, Bool.or_eq_true, not_or, not_or] at z
    refine ⟨?_, by simpa using z.1.2, h⟩
    cases q : S b with
    | none => rfl
    | some o => rw [q] at z; exact absurd rfl z.1.1
theorem others_nt : NT (others S H P) := fun b ps e => by
  have h := e
  unfold others at h
  split at h
  · cases h
  · rename_i z
    rw [h] at z
    exact z (by simp [isTab])
theorem others_of {b : Addr} (h1 : S b = none) (h2 : P b = false) (h3 : ∀ ps, H b ≠ some (.tbl ps)) : others S H P b = H b := by
  unfold others
  rw [h1, h2, show isTab (H b) = false from by
    unfold isTab
    split
    · rename_i ps e; exact absurd e (h3 ps)
    · rfl]
  rfl
theorem others_pass {b : Addr} (h : P b = true) : others S H P b = none := by
  unfold others
  rw [h, Bool.or_true, Bool.true_or, if_pos rfl]
/-- behind a callee: the slots that hold nothing of what was passed -/
theorem Rel.back (R : Rel K T π F S ρ σ H) (s : Same S S') (sS : Same S' H') (sF : Same (others S H P) H') (dj : ∀ a o, others S H P a = some o → S' a = none) (nS : NT S') (tb : LamX.Tabs T.tb H') (hP : ∀ a o, F a = some o → P a = false)
    (hO : ∀ (i : Nat) (c : Cell) (a : Addr), ρ[i]? = some c → c.mut = true → σ[i]? = some (some (V.ref a)) → P a = false) : Rel K T π F S' ρ σ H' := by
  have tr : ∀ {b : Addr} {o : HO}, S b = none → P b = false → H b = some o → (∀ ps, o ≠ .tbl ps) → others S H P b = some o := fun h1 h2 h3 h4 => (others_of h1 h2 fun ps z => h4 ps (Option.some.inj (h3.symm.trans z))).trans h3
  exact R.step s sS (fun b o q => sF b o (tr (R.dj _ _ q) (hP _ _ q) (R.sF _ _ q) fun ps z => R.nF b ps (z ▸ q))) (fun b o q => dj b o (tr (R.dj _ _ q) (hP _ _ q) (R.sF _ _ q) fun ps z => R.nF b ps (z ▸ q))) nS tb fun i c b hc m e => by
    obtain ⟨h1, _, o, h2⟩ := R.ownAt hc m e
    have q := tr h1 (hO i c b hc m e) h2 fun ps z => R.notab hc m e ps (z ▸ h2)
    exact ⟨(sF b o q).trans h2.symm, dj b o q⟩
theorem fros_get {i : Nat} {c : Cell} (h : (ds.map Cell.fro)[i]? = some c) : ∃ d, c = .fro d ∧ ds[i]? = some d := by
  rw [List.getElem?_map, Option.map_eq_some_iff] at h
  obtain ⟨d, h1, rfl⟩ := h
  exact ⟨d, rfl, h1⟩
theorem rel_fros (R : Rel K T π F S ρ σ H) (h : DRs K T S vs ds) : Rel K T (vs.map some) (others S H fun _ => false) S (ds.map .fro) (vs.map some) H := by
  refine ⟨R.sS, fun b o q => (others_some q).2.2, fun b o q => (others_some q).1, R.nS, others_nt, R.tb, by rw [List.length_map, List.length_map, h.length], fun i c hc => ?_, fun i j b ci cj hi hj mi mj ei ej => ?_⟩
  · obtain ⟨d, rfl, hd⟩ := fros_get hc
    obtain ⟨v, hv, hr⟩ := h.get hd
    exact ⟨v, by rw [List.getElem?_map, hv]; rfl, hr⟩
  · obtain ⟨d, rfl, hd⟩ := fros_get hi
    cases mi
/-- a callee's result, ours -/
theorem RVR.back (R : Rel K T π F S ρ σ H) (h : RVR K T (others S H P) S' H' ρ' τ v r) (m : r.made = true) (hP : ∀ a o, F a = some o → P a = false)
    (hap : ∀ a, others S H P a = none → Apart ρ' τ a → S' a = none → Apart ρ σ a) : RVR K T F S' H' ρ σ v r := by
  cases r with
  | bor i => cases m
  | fro d => exact h
  | own d =>
    obtain ⟨a, rfl, o, ap⟩ := h
    refine ⟨a, rfl, ⟨o.1, ?_, o.2.2⟩, hap a o.2.1 ap o.1⟩
    cases q : F a with
    | none => rfl
    | some x =>
      have := (others_of (H := H) (R.dj _ _ q) (hP _ _ q) fun ps z => R.nF a ps (q.trans ((R.sF _ _ q).symm.trans z))).trans (R.sF _ _ q)
      rw [o.2.1] at this; cases this
theorem ap_none (R : Rel K T π F S ρ σ H) (P : Addr → Bool) (hO : ∀ (i : Nat) (c : Cell) (a : Addr), ρ[i]? = some c → c.mut = true → σ[i]? = some (some (V.ref a)) → P a = false) (h : others S H P a = none) : Apart ρ σ a := fun i c hc m e => by
  obtain ⟨h1, _, o, h2⟩ := R.ownAt hc m e
  rw [others_of h1 (hO i c a hc m e) (R.notab hc m e), h2] at h
  cases h
end
def eCall (f : Fm) (g : AF) : EF := fun ρ => (g ρ).bind fun p => (Res.of (frozen p.1)).bind fun ds => (f (ds.map .fro)).bind fun q => if q.1.made = true then .ok (q.1, p.2) else .bad
section
variable {X : Cx} {T : Tab} {CX : CXT} {k : Nat} {f C : Addr} {fd : FuncData} {ps : List Str} {sp : Sp} {E : XK} {x m : Str} {p pos apos : Pos} {e o : Expr} {es : List Expr} {ff : Fm} {g : AF}
theorem call_run {K : PySem.W.Frag} {σ : L2.St} {H : Hp} {Q : VK} (h : SE K T (eCall ff g) σ H Q) : tCall (SpF K T ff) [] E (SA K T g) σ H Q := by
  obtain ⟨π, F, S, ρ, r, ρ', R, e, q⟩ := h
  obtain ⟨⟨rs, ρ1⟩, e1, e⟩ := Res.bind_eq e
  obtain ⟨ds, e2, e⟩ := Res.bind_eq e
  obtain ⟨⟨r', cs'⟩, e3, e⟩ := Res.bind_eq e
  split at e
  · rename_i mr
    cases e
    refine ⟨π, F, S, ρ, rs, ρ1, R, e1, fun S1 H1 vs s1 R1 hv => ?_⟩
    show SpF K T ff (vs ++ []) H1 Q E
    rw [List.append_nil]
    have hd := hv.frozen (Res.of_eq e2)
    refine ⟨_, S1, _, _, _, rel_fros R1 hd, e3, mr, fun S' H' v s' R' rv => ?_⟩
    have R2 : Rel K T π F S' ρ1 σ H' := R1.back s' R'.sS R'.sF R'.dj R'.nS R'.tb (fun _ _ _ => rfl) fun _ _ _ _ _ _ => rfl
    exact q S' H' v (s1.trans s') R2 (rv.back R1 mr (fun _ _ _ => rfl) fun a h _ _ => ap_none R1 _ (fun _ _ _ _ _ _ => rfl) h)
  · cases e
theorem ee_call (G : FnOk X.prog X.w X.K X.mg X.base CX k f fd ps (SpF X.K T ff)) (hr : Room k X.A) (hg : Gl X x) (hm : X.mg x = some (.ref f)) (hk : PySem.W.keepIn X.K (.ref f) = true) (hb : Binds X.K fd ps []) (hx : Passes CX X E)
    (ha : PA X (e :: es) (SA X.K T g)) (hdb : (x == ("__debug__" : Str)) = false := by decide) (he : starEach (e :: es) X.env = (false, eval e X.env) :: starEach es X.env := by rfl) (hpl : (backTo pos (starEach es X.env)).any (·.1) = false := by rfl) :
    PE X (.Call (.Name x p) (e :: es) [] pos) (SE X.K T (eCall ff g)) := (pe_call G hr hg hm hk hb .nil hx ha hdb he hpl).imp fun _ _ _ q => call_run q
end
end Dt
end

section
set_option Elab.async false
set_option linter.all false
set_option maxRecDepth 100000
set_option maxHeartbeats 4000000
set_option autoImplicit false
namespace Dt
open PySem PySem.Spec PyProof.Rows L2

/-! ### a call that may change one object of ours -/
def oneB : List RV → Option (List D × Nat × List D)
  | [] => none
  | .fro d :: r => (oneB r).map fun p => (d :: p.1, p.2)
  | .bor i :: r => (frozen r).map fun ds => ([], i, ds)
  | .own _ :: _ => none
def eCallB (f : Fm) (g : AF) : EF := fun ρ => (g ρ).bind fun p => (Res.of (oneB p.1)).bind fun b => (Res.of p.2[b.2.1]?).bind fun c => (Res.need c.mut).bind fun _ => (Res.of c.dat).bind fun d =>
  (f (b.1.map .fro ++ .brw d :: b.2.2.map .fro)).bind fun q => (Res.need q.1.made).bind fun _ => match q.2[b.1.length]? with
    | some (.brw d') => .ok (q.1, p.2.set b.2.1 (c.put d'))
    | _ => .bad
section
variable {K : PySem.W.Frag} {T : Tab} {π σ τ : L2.St} {F S S' H H' : Hp} {ρ ρ' : Env} {a : Addr} {v : V} {d : D} {r : RV}
theorem HeldAll.oneB : ∀ {vs : List V} {rs : List RV} {A : List D} {i : Nat} {B : List D}, HeldAll K T S σ vs rs → Dt.oneB rs = some (A, i, B) → ∃ us v ws, vs = us ++ v :: ws ∧ DRs K T S us A ∧ σ[i]? = some (some v) ∧ DRs K T S ws B
  | _, _, _, _, _, .nil, e => by cases e
  | v :: vs, r :: rs, A, i, B, .cons h q, e => by
    cases r with
    | own d => cases e
    | bor j =>
      obtain ⟨ds, e1, e2⟩ := Option.map_eq_some_iff.mp e
      cases e2
      exact ⟨[], v, vs, rfl, .nil, h, q.frozen e1⟩
    | fro d =>
      obtain ⟨⟨A', i', B'⟩, e1, e2⟩ := Option.map_eq_some_iff.mp e
      cases e2
      obtain ⟨us, x, ws, rfl, h1, h2, h3⟩ := HeldAll.oneB q e1
      exact ⟨v :: us, x, ws, rfl, .cons h h1, h2, h3⟩
theorem Rel.ownd (R : Rel K T π F S ρ σ H) {i : Nat} {c : Cell} (hc : ρ[i]? = some c) (m : c.mut = true) (e : c.dat = some d) : ∃ a, σ[i]? = some (some (V.ref a)) ∧ Own K T F S H a d := by
  have q := R.sl i c hc
  cases c with
  | un => cases m
  | fro _ => cases m
  | own _ => cases e; exact q
  | brw _ => cases e; obtain ⟨a, h1, _, h2⟩ := q; exact ⟨a, h1, h2⟩
theorem mid_get {A B : List D} {i : Nat} {c : Cell} (h : (A.map Cell.fro ++ Cell.brw d :: B.map Cell.fro)[i]? = some c) : (i = A.length ∧ c = .brw d) ∨ (∃ x, c = .fro x ∧ i ≠ A.length ∧ ((i < A.length ∧ A[i]? = some x) ∨ (A.length < i ∧ B[i - A.length - 1]? = some x))) := by
  by_cases h1 : i < A.length
  · rw [List.getElem?_append_left (by simpa using h1)] at h
    obtain ⟨x, rfl, hx⟩ := fros_get h
    exact .inr ⟨x, rfl, by omega, .inl ⟨h1, hx⟩⟩
  · rw [List.getElem?_append_right (by simpa using h1), List.length_map] at h
    by_cases h2 : i = A.length
    · subst h2
      rw [Nat.sub_self] at h
      cases h
      exact .inl ⟨rfl, rfl⟩
    · obtain ⟨j, hj⟩ : ∃ j, i - A.length = j + 1 := ⟨i - A.length - 1, by omega⟩
      rw [hj, List.getElem?_cons_succ] at h
      obtain ⟨x, rfl, hx⟩ := fros_get h
      exact .inr ⟨x, rfl, h2, .inr ⟨by omega, by rw [hj, Nat.add_sub_cancel]; exact hx⟩⟩
/-- a callee's entry, one object lent at a -/
theorem rel_mid {us ws : List V} {A B : List D} (R : Rel K T π F S ρ σ H) (hA : DRs K T S us A) (hB : DRs K T S ws B) (o : Own K T F S H a d) : Rel K T ((us ++ V.ref a :: ws).map some) (others S H fun b => b == a) S (A.map .fro ++ .brw d :: B.map .fro) ((us ++ V.ref a :: ws).map some) H := by
  have la := hA.length
  have lb := hB.length
  have get : ∀ {i : Nat} {c : Cell}, (A.map Cell.fro ++ Cell.brw d :: B.map Cell.fro)[i]? = some c → (i = A.length ∧ c = .brw d ∧ ((us ++ V.ref a :: ws).map some)[i]? = some (some (V.ref a))) ∨ (∃ x v, c = .fro x ∧ ((us ++ V.ref a :: ws).map some)[i]? = some (some v) ∧ DR K T S v x) := fun {i c} h => by
    rcases mid_get h with ⟨rfl, rfl⟩ | ⟨x, rfl, n, ⟨hl, hx⟩ | ⟨hl, hx⟩⟩
    · refine .inl ⟨rfl, rfl, ?_⟩
      rw [List.getElem?_map, List.getElem?_append_right (by omega), la, Nat.sub_self]; rfl
    · obtain ⟨v, hv, hr⟩ := hA.get hx
      refine .inr ⟨x, v, rfl, ?_, hr⟩
      rw [List.getElem?_map, List.getElem?_append_left (by omega), hv]; rfl
    · obtain ⟨v, hv, hr⟩ := hB.get hx
      refine .inr ⟨x, v, rfl, ?_, hr⟩
      obtain ⟨j, hj⟩ : ∃ j, i - us.length = j + 1 := ⟨i - us.length - 1, by omega⟩
      rw [List.getElem?_map, List.getElem?_append_right (by omega), hj, List.getElem?_cons_succ, show j = i - A.length - 1 by omega, hv]; rfl
  refine ⟨R.sS, fun b o q => (others_some q).2.2, fun b o q => (others_some q).1, R.nS, others_nt, R.tb, by simp [la, lb], fun i c hc => ?_, fun i j b ci cj hi hj mi mj ei ej => ?_⟩
  · rcases get hc with ⟨_, rfl, e⟩ | ⟨x, v, rfl, e, hr⟩
    · exact ⟨a, e, e, o.1, others_pass (by simp), o.2.2⟩
    · exact ⟨v, e, hr⟩
  · rcases get hi with ⟨rfl, rfl, _⟩ | ⟨x, v, rfl, e, hr⟩
    · rcases get hj with ⟨rfl, rfl, _⟩ | ⟨x, v, rfl, e, hr⟩
      · rfl
      · cases mj
    · cases mi
/-- behind a callee that was lent the object at slot i -/
theorem Rel.backB {us ws : List V} {A : List D} {cs' : List Cell} {d' : D} {i : Nat} {c : Cell} (R : Rel K T π F S ρ σ H) (hc : ρ[i]? = some c) (m : c.mut = true) (e : σ[i]? = some (some (V.ref a))) (la : us.length = A.length)
    (s : Same S S') (R' : Rel K T ((us ++ V.ref a :: ws).map some) (others S H fun b => b == a) S' cs' ((us ++ V.ref a :: ws).map some) H') (h' : cs'[A.length]? = some (.brw d')) :
    Rel K T π F S' (ρ.set i (c.put d')) σ H' ∧ (∀ b x, F b = some x → (b == a) = false) ∧ (∀ b, others S H (fun b => b == a) b = none → Apart cs' ((us ++ V.ref a :: ws).map some) b → S' b = none → Apart (ρ.set i (c.put d')) σ b) := by
  obtain ⟨ha1, ha2, oa, ha3⟩ := R.ownAt hc m e
  have nF : ∀ b x, F b = some x → (b == a) = false := fun b x q => by
    have : b ≠ a := fun z => by rw [z, ha2] at q; cases q
    simpa using this
  have ne : ∀ {j : Nat} {cj : Cell} {b : Addr}, j ≠ i → ρ[j]? = some cj → cj.mut = true → σ[j]? = some (some (V.ref b)) → b ≠ a := fun nj hj mj ej z => nj (R.ds _ _ a _ _ hj hc mj m (by rw [ej, z]) e)
  have at_ : ((us ++ V.ref a :: ws).map some)[A.length]? = some (some (V.ref a)) := by
    rw [List.getElem?_map, List.getElem?_append_right (by omega), la, Nat.sub_self]; rfl
  obtain ⟨b0, e1, _, own'⟩ := R'.sl _ _ h'
  rw [at_] at e1; cases e1
  have keep : ∀ {j : Nat} {cj : Cell} {b : Addr}, j ≠ i → ρ[j]? = some cj → cj.mut = true → σ[j]? = some (some (V.ref b)) → H' b = H b ∧ S' b = none := fun {j cj b} nj hj mj ej => by
    obtain ⟨h1, _, o, h2⟩ := R.ownAt hj mj ej
    have q : others S H (fun b => b == a) b = some o := (others_of h1 (by simpa using ne nj hj mj ej) (R.notab hj mj ej)).trans h2
    exact ⟨(R'.sF _ _ q).trans h2.symm, R'.dj _ _ q⟩
  have tr : ∀ {b : Addr} {x : HO}, F b = some x → others S H (fun b => b == a) b = some x := fun {b x} q => (others_of (R.dj _ _ q) (nF _ _ q) fun ps z => R.nF b ps (q.trans ((R.sF _ _ q).symm.trans z))).trans (R.sF _ _ q)
  have mutb : ∀ {j : Nat} {cj : Cell}, (ρ.set i (c.put d'))[j]? = some cj → cj.mut = true → ∃ cj', ρ[j]? = some cj' ∧ cj'.mut = true := fun {j cj} hj mj => by
    rcases getElem?_set_cases hj with ⟨rfl, rfl⟩ | ⟨_, hj⟩
    · exact ⟨c, hc, m⟩
    · exact ⟨_, hj, mj⟩
  refine ⟨⟨R'.sS, fun b x q => R'.sF _ _ (tr q), fun b x q => R'.dj _ _ (tr q), R'.nS, R.nF, R'.tb, by rw [List.length_set]; exact R.len, fun j cj hj => ?_, fun j k b cj ck hj hk mj mk ej ek => ?_⟩, nF, fun b hb ap hS j cj hj mj z => ?_⟩
  · rcases getElem?_set_cases hj with ⟨rfl, rfl⟩ | ⟨nj, hj⟩
    · have q := R.sl j c hc
      have ow : Own K T F S' H' a d' := ⟨own'.1, ha2, own'.2.2⟩
      cases c with
      | un => cases m
      | fro _ => cases m
      | own _ => exact ⟨a, e, ow⟩
      | brw _ =>
        obtain ⟨b, q1, q2, _⟩ := q
        rw [q1] at e; cases e
        exact ⟨a, q1, q2, ow⟩
    · have q := R.sl j cj hj
      cases cj with
      | un => trivial
      | fro _ => obtain ⟨x, q1, q2⟩ := q; exact ⟨x, q1, q2.mono s⟩
      | own _ =>
        obtain ⟨b, q1, q2⟩ := q
        obtain ⟨k1, k2⟩ := keep nj hj rfl q1
        exact ⟨b, q1, (q2.mono s k2).heap k1⟩
      | brw _ =>
        obtain ⟨b, q1, q0, q2⟩ := q
        obtain ⟨k1, k2⟩ := keep nj hj rfl q1
        exact ⟨b, q1, q0, (q2.mono s k2).heap k1⟩
  · obtain ⟨cj', hj', mj'⟩ := mutb hj mj
    obtain ⟨ck', hk', mk'⟩ := mutb hk mk
    exact R.ds j k b _ _ hj' hk' mj' mk' ej ek
  · obtain ⟨cj', hj', mj'⟩ := mutb hj mj
    by_cases nj : j = i
    · subst nj
      rw [e] at z; cases z
      exact ap _ _ h' rfl at_
    · obtain ⟨h1, _, o, h2⟩ := R.ownAt hj' mj' z
      rw [others_of h1 (by simpa using ne nj hj' mj' z) (R.notab hj' mj' z), h2] at hb
      cases hb
end
section
variable {X : Cx} {T : Tab} {CX : CXT} {k : Nat} {f C : Addr} {fd : FuncData} {ps : List Str} {E : XK} {x m : Str} {p pos apos : Pos} {e o : Expr} {es : List Expr} {ff : Fm} {g : AF}
theorem callB_run {K : PySem.W.Frag} {σ : L2.St} {H : Hp} {Q : VK} (h : SE K T (eCallB ff g) σ H Q) : tCall (SpF K T ff) [] E (SA K T g) σ H Q := by
  obtain ⟨π, F, S, ρ, r, ρ', R, e, q⟩ := h
  obtain ⟨⟨rs, ρ1⟩, e1, e⟩ := Res.bind_eq e
  obtain ⟨⟨A, i, B⟩, e2, e⟩ := Res.bind_eq e
  obtain ⟨c, e3, e⟩ := Res.bind_eq e
  obtain ⟨_, e4, e⟩ := Res.bind_eq e
  obtain ⟨d, e5, e⟩ := Res.bind_eq e
  obtain ⟨⟨r', cs'⟩, e6, e⟩ := Res.bind_eq e
  obtain ⟨_, e7, e⟩ := Res.bind_eq e
  have hc : ρ1[i]? = some c := Res.of_eq e3
  have mc := Res.need_eq e4
  have mr : r'.made = true := Res.need_eq e7
  refine ⟨π, F, S, ρ, rs, ρ1, R, e1, fun S1 H1 vs s1 R1 hv => ?_⟩
  show SpF K T ff (vs ++ []) H1 Q E
  rw [List.append_nil]
  obtain ⟨us, v, ws, rfl, hA, hv1, hB⟩ := hv.oneB (Res.of_eq e2)
  obtain ⟨a, ha, ow⟩ := R1.ownd hc mc (Res.of_eq e5)
  rw [hv1] at ha; cases ha
  refine ⟨_, S1, _, _, _, rel_mid R1 hA hB ow, e6, mr, fun S' H' v s' R' rv => ?_⟩
  split at e
  · rename_i d' hd'
    cases e
    obtain ⟨R2, nF, hap⟩ := R1.backB hc mc hv1 hA.length s' R' hd'
    exact q S' H' v (s1.trans s') R2 (by
      cases r' with
      | bor i => cases mr
      | fro d => exact rv
      | own d =>
        obtain ⟨b, rfl, o, ap⟩ := rv
        refine ⟨b, rfl, ⟨o.1, ?_, o.2.2⟩, hap b o.2.1 ap o.1⟩
        cases q : F b with
        | none => rfl
        | some x =>
          have := (others_of (H := H1) (P := fun b => b == a) (R1.dj _ _ q) (nF _ _ q) fun ps z => R1.nF b ps (q.trans ((R1.sF _ _ q).symm.trans z))).trans (R1.sF _ _ q)
          rw [o.2.1] at this; cases this)
  · cases e
theorem ee_callB_ (G : FnOk X.prog X.w X.K X.mg X.base CX k f fd ps (SpF X.K T ff)) (hr : Room k X.A) (hg : Gl X x) (hm : X.mg x = some (.ref f)) (hk : PySem.W.keepIn X.K (.ref f) = true) (hb : Binds X.K fd ps []) (hx : Passes CX X E)
    (ha : PA X (e :: es) (SA X.K T g)) (hdb : (x == ("__debug__" : Str)) = false := by decide) (he : starEach (e :: es) X.env = (false, eval e X.env) :: starEach es X.env := by rfl) (hpl : (backTo pos (starEach es X.env)).any (·.1) = false := by rfl) :
    PE X (.Call (.Name x p) (e :: es) [] pos) (SE X.K T (eCallB ff g)) := (pe_call G hr hg hm hk hb .nil hx ha hdb he hpl).imp fun _ _ _ q => callB_run q
end

/-! ### classes -/
structure ClsOk (K : PySem.W.Frag) (T : Tab) (c : Nat) : Prop where
  cls : Cls K (T.ca c)
  no : ∀ f ∈ T.fl c, NoAttr K (T.ca c) f
  nd : (T.fl c).Nodup
  few : (T.fl c).length ≤ 900
/-- in these classes f is the field at that place -/
def FldOk (K : PySem.W.Frag) (T : Tab) (tbl : List (Nat × Nat)) (f : Str) : Prop := ∀ c k, tbl.lookup c = some k → ClsOk K T c ∧ (T.fl c)[k]? = some f
section
variable {K : PySem.W.Frag} {T : Tab} {S : Hp}
theorem lookup_of : ∀ {fs : List (Str × V)} {ds : List D} {names : List Str} {k : Nat} {f : Str} {x : D}, names.Nodup → fs.map (·.1) = names.take ds.length → DRs K T S (fs.map (·.2)) ds → names[k]? = some f → ds[k]? = some x → ∃ v, fs.lookup f = some v ∧ DR K T S v x
  | [], ds, names, k, f, x, nd, hn, hd, hk, hx => by
    cases hd
    simp at hx
  | (n, v) :: fs, [], names, k, f, x, nd, hn, hd, hk, hx => by simp at hx
  | (n, v) :: fs, d :: ds, [], k, f, x, nd, hn, hd, hk, hx => by simp at hk
  | (n, v) :: fs, d :: ds, m :: names, 0, f, x, nd, hn, hd, hk, hx => by
    cases hd with
    | cons h r =>
      have e : n = m := by
        have := congrArg List.head? hn
        simpa using this
      subst e
      cases hk
      cases hx
      exact ⟨v, by simp [List.lookup], h⟩
  | (n, v) :: fs, d :: ds, m :: names, k + 1, f, x, nd, hn, hd, hk, hx => by
    cases hd with
    | cons h r =>
      have e : n = m ∧ fs.map (·.1) = names.take ds.length := by
        rw [List.map_cons, List.length_cons, List.take_succ_cons] at hn
        exact ⟨(List.cons.inj hn).1, (List.cons.inj hn).2⟩
      obtain ⟨rfl, hn2⟩ := e
      obtain ⟨v', h1, h2⟩ := lookup_of (k := k) (List.nodup_cons.mp nd).2 hn2 r (by simpa using hk) (by simpa using hx)
      refine ⟨v', ?_, h2⟩
      have ne : (f == n) = false := by
        have : f ≠ n := fun z => (List.nodup_cons.mp nd).1 (z ▸ List.mem_of_getElem? (by simpa using hk))
        simpa using this
      rw [List.lookup, ne]
      exact h1
theorem putF_of : ∀ {fs : List (Str × V)} {ds : List D} {names : List Str} {k : Nat} {f : Str} {y : V} {x : D}, names.Nodup → fs.map (·.1) = names.take ds.length → DRs K T S (fs.map (·.2)) ds → names[k]? = some f → k ≤ ds.length → DR K T S y x →
    (putF f y fs).map (·.1) = names.take (if k < ds.length then ds.set k x else ds ++ [x]).length ∧ DRs K T S ((putF f y fs).map (·.2)) (if k < ds.length then ds.set k x else ds ++ [x])
  | [], ds, names, k, f, y, x, nd, hn, hd, hk, hl, hy => by
    cases hd
    have ek : k = 0 := Nat.le_zero.mp hl
    subst ek
    cases names with
    | nil => simp at hk
    | cons m names =>
      cases hk
      exact ⟨rfl, .one hy⟩
  | (n, v) :: fs, [], names, k, f, y, x, nd, hn, hd, hk, hl, hy => by cases hd
  | (n, v) :: fs, d :: ds, [], k, f, y, x, nd, hn, hd, hk, hl, hy => by simp at hk
  | (n, v) :: fs, d :: ds, m :: names, 0, f, y, x, nd, hn, hd, hk, hl, hy => by
    cases hd with
    | cons h r =>
      have e : n = m ∧ fs.map (·.1) = names.take ds.length := by
        rw [List.map_cons, List.length_cons, List.take_succ_cons] at hn
        exact ⟨(List.cons.inj hn).1, (List.cons.inj hn).2⟩
      obtain ⟨rfl, hn2⟩ := e
      cases hk
      have e2 : putF n y ((n, v) :: fs) = (n, y) :: fs := by unfold putF; simp
      rw [e2, if_pos (show 0 < (d :: ds).length from Nat.zero_lt_succ _)]
      refine ⟨?_, .cons hy r⟩
      rw [List.set_cons_zero, List.map_cons, List.length_cons, List.take_succ_cons, hn2]
  | (n, v) :: fs, d :: ds, m :: names, k + 1, f, y, x, nd, hn, hd, hk, hl, hy => by
    cases hd with
    | cons h r =>
      have e : n = m ∧ fs.map (·.1) = names.take ds.length := by
        rw [List.map_cons, List.length_cons, List.take_succ_cons] at hn
        exact ⟨(List.cons.inj hn).1, (List.cons.inj hn).2⟩
      obtain ⟨rfl, hn2⟩ := e
      have ne : f ≠ n := fun z => (List.nodup_cons.mp nd).1 (z ▸ List.mem_of_getElem? (by simpa using hk))
      have e2 : putF f y ((n, v) :: fs) = (n, v) :: putF f y fs := by
        conv => lhs; unfold putF
        simp [Ne.symm ne, ne]
      obtain ⟨h1, h2⟩ := putF_of (k := k) (x := x) (List.nodup_cons.mp nd).2 hn2 r (by simpa using hk) (by simpa using hl) hy
      have e3 : (if k + 1 < (d :: ds).length then (d :: ds).set (k + 1) x else d :: ds ++ [x]) = d :: (if k < ds.length then ds.set k x else ds ++ [x]) := by
        by_cases z : k < ds.length
        · rw [if_pos z, if_pos (by simpa using z), List.set_cons_succ]
        · rw [if_neg z, if_neg (by simpa using z), List.cons_append]
      rw [e2, e3]
      exact ⟨by rw [List.map_cons, List.length_cons, List.take_succ_cons, h1], .cons h h2⟩
end
def eFld (tbl : List (Nat × Nat)) (f : EF) : EF := getD f fun d ρ1 => match d with
  | .obj c ds => (Res.of (tbl.lookup c)).bind fun k => (Res.of ds[k]?).bind fun x => .ok (.fro x, ρ1)
  | _ => .bad
/-- o.f = e, o the name in slot i -/
def sFld (i : Nat) (tbl : List (Nat × Nat)) (f : EF) : SF := fun ρ => (f ρ).bind fun p => (Res.of p.1.take).bind fun x => (Res.of p.2[i]?).bind fun c => (Res.need c.mut).bind fun _ => (Res.of c.dat).bind fun d => match d with
  | .obj n ds => (Res.of (tbl.lookup n)).bind fun k => (Res.need (decide (k ≤ ds.length))).bind fun _ => .ok (.nx, p.2.set i (c.put (.obj n (if k < ds.length then ds.set k x else ds ++ [x]))))
  | _ => .bad
section
variable {X : Cx} {T : Tab} {o e : Expr} {f : Str} {pos pos' : Pos} {fe : EF} {tbl : List (Nat × Nat)}
theorem ee_fld (hf : FldOk X.K T tbl f) (he : PE X e (SE X.K T fe)) (hb : attributeBase e f X.env (eval e X.env) = eval e X.env := by rfl) : PE X (.Attribute e f pos) (SE X.K T (eFld tbl fe)) := (pe_fld he hb).imp fun σ H Q ⟨π, F, S, ρ, r, ρ', R, e, q⟩ => by
  refine SE.data R e fun S' H' ρ1 v d s R' rd hk => ?_
  cases d <;> first | (cases hk; done) | skip
  obtain ⟨k, e1, hk⟩ := Res.bind_eq hk
  obtain ⟨x, e2, hk⟩ := Res.bind_eq hk
  cases hk
  obtain ⟨co, hn⟩ := hf _ _ (Res.of_eq e1)
  obtain ⟨a, dx, fs, rfl, h1, h2, h3⟩ := rd.obj R'.sS
  obtain ⟨v, h4, h5⟩ := lookup_of co.nd h2 h3 hn (Res.of_eq e2)
  exact ⟨a, _, dx, fs, v, rfl, h1, co.cls, co.no _ (List.mem_of_getElem? hn), h4, q S' H' v s R' h5⟩
theorem ss_fld {i : Nat} (hf : FldOk X.K T tbl f) (ho : PE X o (tVar i)) (he : PE X e (SE X.K T fe)) (hs : swapsWith e (some (.Attribute o f pos')) pos.line X.env = pure false := by rfl) : PS X (.Assign [.Attribute o f pos'] e pos) (SS X.K T (sFld i tbl fe)) := (ps_fld ho he hs).imp fun D σ H ⟨π, F, S, ρ, fl, ρ', R, e, q⟩ => by
  obtain ⟨⟨r, ρ1⟩, e1, e⟩ := Res.bind_eq e
  obtain ⟨x, e2, e⟩ := Res.bind_eq e
  obtain ⟨c, e3, e⟩ := Res.bind_eq e
  obtain ⟨_, e4, e⟩ := Res.bind_eq e
  obtain ⟨d, e5, e⟩ := Res.bind_eq e
  have mc := Res.need_eq e4
  refine ⟨π, F, S, ρ, r, ρ1, R, e1, fun S1 H1 y s1 R1 rv => ?_⟩
  obtain ⟨S2, s2, R2, hy⟩ := rv.take R1 (Res.of_eq e2)
  obtain ⟨a, ha, ow⟩ := R2.ownd (Res.of_eq e3) mc (Res.of_eq e5)
  cases d <;> first | (cases e; done) | skip
  rename_i n ds
  obtain ⟨k, e6, e⟩ := Res.bind_eq e
  obtain ⟨_, e7, e⟩ := Res.bind_eq e
  have hkl := of_decide_eq_true (Res.need_eq e7)
  cases e
  obtain ⟨co, hn⟩ := hf _ _ (Res.of_eq e6)
  obtain ⟨dx, fs, h1, h2, h3⟩ := ow.2.2
  obtain ⟨p1, p2⟩ := putF_of co.nd h2 h3 hn hkl hy
  refine ⟨_, ha, a, _, dx, fs, rfl, h1, co.cls, co.no _ (List.mem_of_getElem? hn), ?_, ?_⟩
  · have l1 : fs.length = ds.length := by rw [← h3.length, List.length_map]
    have l2 : (fs.map (·.1)).length = fs.length := List.length_map ..
    rw [h2, List.length_take] at l2
    have := co.few
    omega
  · exact q S2 σ _ (s1.trans s2) (R2.mutate (Res.of_eq e3) mc ha ⟨dx, _, upd_same, p1, p2⟩)
end
end Dt
end

section
set_option Elab.async false
set_option linter.all false
set_option maxRecDepth 100000
set_option maxHeartbeats 4000000
set_option autoImplicit false
namespace Dt
open PySem PySem.Spec PyProof.Rows L2

/-! ### a, b = e, f -/
def sPar (i j : Nat) (f g : EF) : SF := fun ρ => (f ρ).bind fun p => (g p.2).bind fun q => (Res.of (storeC p.1)).bind fun c => (Res.of (storeC q.1)).bind fun d => .ok (.nx, (q.2.set i c).set j d)
section
variable {X : Cx} {T : Tab} {a b : Expr} {fa fb : EF} {x y : Str} {px py pt pos : Pos} {i j : Nat}
theorem ss_par {kt k2 : Nat} {pt2 : Pos} (hc : X.calm = true) (hN : X.N.Nodup) (hi : X.N[i]? = some x) (hj : X.N[j]? = some y) (hij : i ≠ j) (hx : X.env.scope.names.lookup x = some .local) (hy : X.env.scope.names.lookup y = some .local)
    (ha : PE X a (SE X.K T fa)) (hb : PE X b (SE X.K T fb)) (h1 : starEach [a, b] X.env = (false, eval a X.env) :: starEach [b] X.env := by rfl) (h2 : starEach [b] X.env = (false, eval b X.env) :: starEach [] X.env := by rfl)
    (hw : swappedStores [.Tuple [.Name x px, .Name y py] kt pt] (.Tuple [a, b] k2 pt2) X.env = pure (some [x, y]) := by rfl) (hs : swapsWithSole [.Tuple [.Name x px, .Name y py] kt pt] (.Tuple [a, b] k2 pt2) pos.line X.env = pure false := by rfl) :
    PS X (.Assign [.Tuple [.Name x px, .Name y py] kt pt] (.Tuple [a, b] k2 pt2) pos) (SS X.K T (sPar i j fa fb)) := (ps_par hc hN hi hj hij hx hy (pa_cons ha (pa_cons hb pa_nil h2) h1) hw hs).imp fun D σ H ⟨π, F, S, ρ, fl, ρ', R, e, q⟩ => by
  obtain ⟨⟨r1, ρ1⟩, e1, e⟩ := Res.bind_eq e
  obtain ⟨⟨r2, ρ2⟩, e2, e⟩ := Res.bind_eq e
  obtain ⟨c, e3, e⟩ := Res.bind_eq e
  obtain ⟨d, e4, e⟩ := Res.bind_eq e
  cases e
  have e3 := Res.of_eq e3
  have e4 := Res.of_eq e4
  refine ⟨π, F, S, ρ, r1, ρ1, R, e1, fun S1 H1 v s1 R1 rv => ?_⟩
  cases r1 with
  | bor _ => cases e3
  | fro d1 =>
    refine ⟨π, F, S1, ρ1, r2, ρ2, R1, e2, fun S2 H2 w s2 R2 rw' => ⟨v, w, rfl, ?_⟩⟩
    have Ra : Rel X.K T π F S2 (ρ2.set i c) (σ.set i (some v)) H2 := R2.store (r := .fro d1) (DR.mono s2 rv) e3
    refine q S2 _ H2 (s1.trans s2) (Ra.store (r := r2) ?_ e4)
    cases r2 with
    | bor _ => cases e4
    | fro _ => exact rw'
    | own d2 =>
      obtain ⟨a2, rfl, o2, ap2⟩ := rw'
      refine ⟨a2, rfl, o2, fun k ck hk m z => ?_⟩
      rcases getElem?_set_cases hk with ⟨rfl, rfl⟩ | ⟨nk, hk⟩
      · cases e3; cases m
      · rw [List.getElem?_set_ne (Ne.symm nk)] at z
        exact ap2 k ck hk m z
  | own d1 =>
    cases e3
    obtain ⟨a1, rfl, o1, ap1⟩ := rv
    obtain ⟨o, ho⟩ := o1.2.2.there
    refine ⟨π, _, S1, ρ1, r2, ρ2, R1.lend o1 ap1 ho, e2, fun S2 H2 w s2 R2 rw' => ⟨_, w, rfl, ?_⟩⟩
    obtain ⟨R3, h3, nS2, ap3⟩ := Rel.unlend o1.2.1 R2
    have own1 : Own X.K T F S2 H2 a1 d1 := ⟨nS2, o1.2.1, (o1.2.2.mono s2).heap (h3.trans ho.symm)⟩
    have Ra : Rel X.K T π F S2 (ρ2.set i (.own d1)) (σ.set i (some (.ref a1))) H2 := R3.store (r := .own d1) ⟨a1, rfl, own1, ap3⟩ rfl
    refine q S2 _ H2 (s1.trans s2) (Ra.store (r := r2) ?_ e4)
    cases r2 with
    | bor _ => cases e4
    | fro _ => exact rw'
    | own d2 =>
      obtain ⟨a2, rfl, o2, ap2⟩ := rw'
      have ne : a2 ≠ a1 := fun z => by
        have := o2.2.1
        rw [z, upd_same] at this; cases this
      refine ⟨a2, rfl, ⟨o2.1, by have := o2.2.1; rw [upd_ne ne] at this; exact this, o2.2.2⟩, fun k ck hk m z => ?_⟩
      rcases getElem?_set_cases hk with ⟨rfl, rfl⟩ | ⟨nk, hk⟩
      · have hl : k < σ.length := by
          have := (List.getElem?_eq_some_iff.mp z).1
          rw [List.length_set] at this; exact this
        rw [List.getElem?_set_self hl] at z
        cases z
        exact ne rfl
      · rw [List.getElem?_set_ne (Ne.symm nk)] at z
        exact ap2 k ck hk m z
end

/-! ### xs[k] = e, xs.append(e), xs.extend(e), xs.pop() -/
/-- our list in slot i is changed to what h gives -/
def putL (i : Nat) (h : List D → Res (List D)) (ρ : Env) : Res Env := (Res.of ρ[i]?).bind fun c => (Res.need c.mut).bind fun _ => (Res.of c.dat).bind fun d => match d with
  | .lst ds => (h ds).bind fun es => .ok (ρ.set i (c.put (.lst es)))
  | _ => .bad
def isL (i : Nat) (ρ : Env) : Bool := match ρ[i]? with
  | some (.own (.lst _)) => true
  | some (.brw (.lst _)) => true
  | _ => false
def sSetIx (i : Nat) (fk fe : EF) : SF := fun ρ => (fe ρ).bind fun p => (Res.of p.1.take).bind fun x => (Res.need (isL i p.2)).bind fun _ => (fk p.2).bind fun q => (Res.of (deref q.2 q.1.hold)).bind fun kd => match kd with
  | .int k => (putL i (fun ds => (Res.of (ixN ds.length k)).bind fun j => .ok (ds.set j x)) q.2).bind fun ρ1 => .ok (.nx, ρ1)
  | _ => .bad
def sApp (i : Nat) (fe : EF) : SF := fun ρ => (Res.need (isL i ρ)).bind fun _ => (fe ρ).bind fun p => (Res.of p.1.take).bind fun x => (putL i (fun ds => if ds.length < sizeLine then .ok (ds ++ [x]) else .bad) p.2).bind fun ρ1 => .ok (.nx, ρ1)
def sExt (i : Nat) (fe : EF) : SF := fun ρ => (Res.need (isL i ρ)).bind fun _ => (fe ρ).bind fun p => (Res.of p.1.take).bind fun x => match x with
  | .lst xs => (putL i (fun ds => if ds.length + xs.length ≤ sizeLine then .ok (ds ++ xs) else .bad) p.2).bind fun ρ1 => .ok (.nx, ρ1)
  | _ => .bad
section
variable {K : PySem.W.Frag} {T : Tab} {π σ : L2.St} {F S S' H H' : Hp} {ρ ρ' : Env} {a : Addr} {v w : V} {d : D} {r : RV} {c : Cell} {i : Nat}
theorem putL_eq {h : List D → Res (List D)} (R : Rel K T π F S ρ σ H) (e : putL i h ρ = .ok ρ') : ∃ a vs ds es, σ[i]? = some (some (V.ref a)) ∧ H a = some (.lst vs) ∧ DRs K T S vs ds ∧ h ds = .ok es ∧
    ∀ ws, DRs K T S ws es → Rel K T π F S ρ' σ (upd H a (.lst ws)) := by
  obtain ⟨c, e1, e⟩ := Res.bind_eq e
  obtain ⟨_, e2, e⟩ := Res.bind_eq e
  obtain ⟨d, e3, e⟩ := Res.bind_eq e
  have mc := Res.need_eq e2
  obtain ⟨a, ha, ow⟩ := R.ownd (Res.of_eq e1) mc (Res.of_eq e3)
  cases d <;> first | (cases e; done) | skip
  rename_i ds
  obtain ⟨es, e4, e⟩ := Res.bind_eq e
  cases e
  obtain ⟨vs, h1, h2⟩ := ow.2.2
  exact ⟨a, vs, ds, es, ha, h1, h2, e4, fun ws hw => R.mutate (Res.of_eq e1) mc ha ⟨ws, upd_same, hw⟩⟩
theorem isL_at (R : Rel K T π F S ρ σ H) (e : isL i ρ = true) : ∃ a vs, σ[i]? = some (some (V.ref a)) ∧ H a = some (.lst vs) := by
  unfold isL at e
  split at e
  · rename_i hc
    obtain ⟨a, h1, o⟩ := R.sl i _ hc
    obtain ⟨vs, h2, _⟩ := o.2.2
    exact ⟨a, vs, h1, h2⟩
  · rename_i hc
    obtain ⟨a, h1, _, o⟩ := R.sl i _ hc
    obtain ⟨vs, h2, _⟩ := o.2.2
    exact ⟨a, vs, h1, h2⟩
  · cases e
end
section
variable {X : Cx} {T : Tab} {o e ke : Expr} {fe fk : EF} {pos spos apos cpos : Pos} {i : Nat}
theorem ss_setIx (ho : PE X o (tVar i)) (hk : PE X ke (SE X.K T fk)) (he : PE X e (SE X.K T fe))
    (ha : ∀ v, assign (.Subscript o ke pos) X.env v = (do
      let ov ← holding [v] (eval o X.env)
      let iv ← holding [v, ov] (eval ke X.env)
      standAt pos
      holding [v, ov, iv] (setItem ov iv v)
      release [v, ov, iv] []) := by intro _; rfl) (hs : swapsWithSole [.Subscript o ke pos] e spos.line X.env = pure false := by rfl) (hw : swappedStores [.Subscript o ke pos] e X.env = pure none := by rfl)
    (h1 : (assignEach [.Subscript o ke pos] X.env).map (·.2) = [assign (.Subscript o ke pos) X.env] := by rfl) : PS X (.Assign [.Subscript o ke pos] e spos) (SS X.K T (sSetIx i fk fe)) := (ps_asg he (pg_sub ho hk set_list ha) hs hw h1).imp fun D σ H ⟨π, F, S, ρ, fl, ρ', R, e, q⟩ => by
  obtain ⟨⟨r, ρ1⟩, e1, e⟩ := Res.bind_eq e
  obtain ⟨x, e2, e⟩ := Res.bind_eq e
  obtain ⟨_, e9, e⟩ := Res.bind_eq e
  obtain ⟨⟨rk, ρ2⟩, e3, e⟩ := Res.bind_eq e
  obtain ⟨kd, e4, e⟩ := Res.bind_eq e
  refine ⟨π, F, S, ρ, r, ρ1, R, e1, fun S1 H1 v s1 R1 rv => ?_⟩
  obtain ⟨S2, s2, R2, hv⟩ := rv.take R1 (Res.of_eq e2)
  obtain ⟨b, _, hb, _⟩ := isL_at R2 (Res.need_eq e9)
  refine ⟨_, hb, π, F, S2, ρ1, rk, ρ2, R2, e3, fun S3 H3 w s3 R3 rw' => ?_⟩
  obtain ⟨S4, s4, R4, hk⟩ := rw'.hold R3
  have rk := hk.rd R4 (Res.of_eq e4)
  cases kd <;> first | (cases e; done) | skip
  rename_i k
  obtain ⟨ρ3, e5, e⟩ := Res.bind_eq e
  cases e
  obtain ⟨a, vs, ds, es, h1, h2, h3, h4, h5⟩ := putL_eq R4 e5
  obtain ⟨j, e6, h4⟩ := Res.bind_eq h4
  cases h4
  rw [hb] at h1; cases h1
  exact ⟨_, vs, k, j, rfl, rk.int, h2, by rw [h3.length]; exact Res.of_eq e6, q S4 σ _ (s1.trans (s2.trans (s3.trans s4))) (h5 _ (h3.set j (hv.mono (s3.trans s4))))⟩
theorem ss_app {st : Stmt} (h : PS X st (tDrop (tBM X.K "list" rAppend (tVar i) (tCons (SE X.K T fe) tNil)))) : PS X st (SS X.K T (sApp i fe)) := h.imp fun D σ H ⟨π, F, S, ρ, fl, ρ', R, e, q⟩ => by
  obtain ⟨_, e1, e⟩ := Res.bind_eq e
  obtain ⟨⟨r, ρ1⟩, e2, e⟩ := Res.bind_eq e
  obtain ⟨x, e3, e⟩ := Res.bind_eq e
  obtain ⟨ρ2, e4, e⟩ := Res.bind_eq e
  cases e
  obtain ⟨b, ws, hb, hl⟩ := isL_at R (Res.need_eq e1)
  refine ⟨_, hb, .inl ⟨rfl, ws, .of hl⟩, π, F, S, ρ, r, ρ1, R, e2, fun S1 H1 v s1 R1 rv => ?_⟩
  obtain ⟨S2, s2, R2, hv⟩ := rv.take R1 (Res.of_eq e3)
  obtain ⟨a, vs, ds, es, h1, h2, h3, h4, h5⟩ := putL_eq R2 e4
  split at h4
  · rename_i hz
    cases h4
    rw [hb] at h1; cases h1
    exact ⟨_, vs, v, rfl, rfl, h2, by rw [h3.length]; exact hz, q S2 σ _ (s1.trans s2) (h5 _ (h3.append (.one hv)))⟩
  · cases h4
theorem ss_ext {st : Stmt} (h : PS X st (tDrop (tBM X.K "list" rExtend (tVar i) (tCons (SE X.K T fe) tNil)))) : PS X st (SS X.K T (sExt i fe)) := h.imp fun D σ H ⟨π, F, S, ρ, fl, ρ', R, e, q⟩ => by
  obtain ⟨_, e1, e⟩ := Res.bind_eq e
  obtain ⟨⟨r, ρ1⟩, e2, e⟩ := Res.bind_eq e
  obtain ⟨x, e3, e⟩ := Res.bind_eq e
  obtain ⟨b, ws, hb, hl⟩ := isL_at R (Res.need_eq e1)
  refine ⟨_, hb, .inl ⟨rfl, ws, .of hl⟩, π, F, S, ρ, r, ρ1, R, e2, fun S1 H1 v s1 R1 rv => ?_⟩
  obtain ⟨S2, s2, R2, hv⟩ := rv.take R1 (Res.of_eq e3)
  cases x <;> first | (cases e; done) | skip
  rename_i xs
  obtain ⟨ρ2, e4, e⟩ := Res.bind_eq e
  cases e
  obtain ⟨a, vs, ds, es, h1, h2, h3, h4, h5⟩ := putL_eq R2 e4
  cases hv with
  | lst hx hxs =>
    split at h4
    · rename_i hz
      cases h4
      rw [hb] at h1; cases h1
      exact ⟨_, _, vs, _, rfl, rfl, h2, R2.sS _ _ hx, by rw [h3.length, hxs.length]; exact hz, q S2 σ _ (s1.trans s2) (h5 _ (h3.append hxs))⟩
    · cases h4
end

/-! ### xs + ys, xs * n, t + u, slices -/
def oCat : D → D → Res RV := fun d e => match d, e with
  | .lst xs, .lst ys => if xs.length + ys.length ≤ sizeLine then .ok (.own (.lst (xs ++ ys))) else .bad
  | .tup xs, .tup ys => if xs.length + ys.length ≤ sizeLine then .ok (.fro (.tup (xs ++ ys))) else .bad
  | .int i, .int j => .ok (.fro (.int (i + j)))
  | _, _ => .bad
def oRep : D → D → Res RV := fun d e => match d, e with
  | .lst xs, .int k => if -(2 ^ 63) ≤ k ∧ k < 2 ^ 63 ∧ xs.length * k.toNat ≤ sizeLine then .ok (.own (.lst (List.replicate k.toNat xs).flatten)) else .bad
  | _, _ => .bad
def rCatQ (K : PySem.W.Frag) : R2 := fun x y H Q => (rCat x y H Q ∨ rCatA K x y H Q) ∨ rI0 (fun i j => .int (i + j)) x y H Q
section
variable {K : PySem.W.Frag} {T : Tab} {S H : Hp}
theorem DRs.rep {vs : List V} {ds : List D} (h : DRs K T S vs ds) : ∀ k : Nat, DRs K T S (List.replicate k vs).flatten (List.replicate k ds).flatten
  | 0 => .nil
  | k + 1 => by
    rw [List.replicate_succ, List.replicate_succ, List.flatten_cons, List.flatten_cons]
    exact h.append (DRs.rep h k)
theorem op_rCatQ : Op2 K T (rCatQ K) oCat := by
  intro π F S ρ σ H x y d e res Q R hx hy hg q
  cases d <;> first | (cases hg; done) | skip
  all_goals (cases e <;> first | (cases hg; done) | skip)
  · cases hg
    exact .inr ⟨_, _, hx.int, hy.int, q S H _ (Same.refl S) R (.int _)⟩
  · rename_i xs ys
    have hg : (if xs.length + ys.length ≤ sizeLine then Res.ok (RV.fro (.tup (xs ++ ys))) else .bad) = .ok res := hg
    split at hg
    · rename_i hz
      cases hg
      obtain ⟨a, vs, rfl, h1, h2⟩ := hx.tup
      obtain ⟨b, ws, rfl, h3, h4⟩ := hy.tup
      refine .inl (.inr ⟨a, b, vs, ws, rfl, rfl, sqT_same R.sS h1, sqT_same R.sS h3, by rw [h2.length, h4.length]; exact hz, fun z => ?_, fun _ z => ?_, fun _ _ p hp => ?_⟩)
      · subst z
        cases h2
        exact q S H _ (Same.refl S) R (.tup h3 h4)
      · subst z
        cases h4
        rw [List.append_nil] at q
        exact q S H _ (Same.refl S) R (.tup h1 h2)
      · obtain ⟨s2, R2, rv⟩ := new_tup R (h2.append h4) hp
        exact q _ _ _ s2 R2 rv
    · cases hg
  · rename_i xs ys
    have hg : (if xs.length + ys.length ≤ sizeLine then Res.ok (RV.own (.lst (xs ++ ys))) else .bad) = .ok res := hg
    split at hg
    · rename_i hz
      cases hg
      obtain ⟨a, vs, rfl, h1, h2⟩ := hx.lst R.sS
      obtain ⟨b, ws, rfl, h3, h4⟩ := hy.lst R.sS
      refine .inl (.inl ⟨a, b, vs, ws, rfl, rfl, h1, h3, by rw [h2.length, h4.length]; exact hz, fun p hp => ?_⟩)
      obtain ⟨R2, rv⟩ := new_lst R (h2.append h4) hp
      exact q _ _ _ (Same.refl S) R2 rv
    · cases hg
theorem op_rRep : Op2 K T rRep oRep := by
  intro π F S ρ σ H x y d e res Q R hx hy hg q
  cases d <;> first | (cases hg; done) | skip
  cases e <;> first | (cases hg; done) | skip
  rename_i xs k
  have hg : (if -(2 ^ 63) ≤ k ∧ k < 2 ^ 63 ∧ xs.length * k.toNat ≤ sizeLine then Res.ok (RV.own (.lst (List.replicate k.toNat xs).flatten)) else .bad) = .ok res := hg
  split at hg
  · rename_i hz
    cases hg
    obtain ⟨a, vs, rfl, h1, h2⟩ := hx.lst R.sS
    refine ⟨a, k, vs, rfl, hy.int, h1, hz.1, hz.2.1, by rw [h2.length]; exact hz.2.2, fun p hp => ?_⟩
    obtain ⟨R2, rv⟩ := new_lst R (h2.rep k.toNat) hp
    exact q _ _ _ (Same.refl S) R2 rv
  · cases hg
end
section
variable {X : Cx} {T : Tab} {a b : Expr} {fa fb : EF} {pos : Pos}
theorem ee_cat (ha : PE X a (SE X.K T fa)) (hb : PE X b (SE X.K T fb)) : PE X (.BinOp a .Add b pos) (SE X.K T (e2 oCat fa fb)) := ee_op ((op_cat.or op_catA).or op_add) op_rCatQ ha hb
theorem ee_rep (ha : PE X a (SE X.K T fa)) (hb : PE X b (SE X.K T fb)) : PE X (.BinOp a .Mult b pos) (SE X.K T (e2 oRep fa fb)) := ee_op op_rep op_rRep ha hb
end
/-- the bounds of a slice -/
def cutD (xs : List D) (lo hi : Option Int) : List D := (xs.drop (HT.sIx xs.length 0 lo)).take (HT.sIx xs.length xs.length hi - HT.sIx xs.length 0 lo)
theorem DRs.cut {K : PySem.W.Frag} {T : Tab} {S : Hp} {vs : List V} {ds : List D} (h : DRs K T S vs ds) (lo hi : Option Int) : DRs K T S (cutV vs lo hi) (cutD ds lo hi) := by
  unfold cutV cutD
  rw [h.length]
  exact (h.drop _).take _
/-- x[lo:hi], the bounds written -/
def eSl (lo hi : Option Int) (f : EF) : EF := getD f fun d ρ1 => match d with
  | .lst xs => .ok (.own (.lst (cutD xs lo hi)), ρ1)
  | .tup xs => .ok (.fro (.tup (cutD xs lo hi)), ρ1)
  | .scr ns => .ok (.own (.lst (cutD (ns.map .int) lo hi)), ρ1)
  | _ => .bad
def PartIs (X : Cx) (e : Option Expr) (i : Option Int) : Prop := ∃ t : TO, PO X e t ∧ ∀ σ H Q, Q i H → t σ H Q
theorem part_none {X : Cx} : PartIs X none none := ⟨_, po_none, fun σ H Q q => q⟩
theorem part_int {X : Cx} {i : Int} {j pos} : PartIs X (some (.Constant (.int i) j pos)) (some i) := ⟨_, po_some pe_int, fun σ H Q q => ⟨i, rfl, q⟩⟩
theorem part_neg {X : Cx} {i : Int} {j pos pos'} : PartIs X (some (.UnaryOp .USub (.Constant (.int i) j pos) pos')) (some (-i)) := ⟨_, po_some (pe_un un_neg pe_int), fun σ H Q q => ⟨i, rfl, -i, rfl, q⟩⟩
section
variable {X : Cx} {T : Tab} {a : Expr} {fa : EF} {pos p2 : Pos} {lo hi : Option Expr} {l h : Option Int}
theorem cut_whole {α : Type} {xs : List α} {lo hi : Option Int} (e : HT.sIx xs.length 0 lo = 0 ∧ HT.sIx xs.length xs.length hi = xs.length) : (xs.drop (HT.sIx xs.length 0 lo)).take (HT.sIx xs.length xs.length hi - HT.sIx xs.length 0 lo) = xs := by
  rw [e.1, e.2, List.drop_zero, Nat.sub_zero, List.take_length]
theorem ee_sl (ha : PE X a (SE X.K T fa)) (h1 : PartIs X lo l) (h2 : PartIs X hi h) : PE X (.Subscript a (.Slice lo hi none p2) pos) (SE X.K T (eSl l h fa)) := by
  obtain ⟨t1, p1, i1⟩ := h1
  obtain ⟨t2, p3, i2⟩ := h2
  refine (pe_slice (sl_list.or sl_tupA) ha p1 p3).imp fun σ H Q hq => ?_
  obtain ⟨π, F, S, ρ, r, ρ', R, e, q⟩ := hq
  refine SE.data R e fun S' H' ρ1 v d s R' rd hk => i1 _ _ _ (i2 _ _ _ ?_)
  cases d <;> first | (cases hk; done) | skip
  · cases hk
    obtain ⟨a, vs, rfl, h1, h2⟩ := rd.tup
    refine .inr ⟨a, vs, rfl, sqT_same R'.sS h1, fun z => ?_, fun _ p hp => ?_⟩
    · refine q S' H' _ s R' (.tup h1 ?_)
      have := h2.cut l h
      rw [show cutV vs l h = vs from cut_whole z] at this
      exact this
    · obtain ⟨s2, R2, rv⟩ := new_tup R' (h2.cut l h) hp
      exact q _ _ _ (s.trans s2) R2 rv
  · cases hk
    obtain ⟨a, vs, rfl, h1, h2⟩ := rd.lst R'.sS
    refine .inl ⟨a, vs, rfl, .of h1, fun p hp => ?_⟩
    obtain ⟨R2, rv⟩ := new_lst R' (h2.cut l h) hp
    exact q _ _ _ s R2 rv
  · cases hk
    obtain ⟨a, rfl, h1⟩ := rd.scr R'.sS
    refine .inl ⟨a, _, rfl, h1, fun p hp => ?_⟩
    obtain ⟨R2, rv⟩ := new_lst R' ((drs_ints _).cut l h) hp
    exact q _ _ _ s R2 rv
end
end Dt
end

section
set_option Elab.async false
set_option linter.all false
set_option maxRecDepth 100000
set_option maxHeartbeats 4000000
set_option autoImplicit false
namespace Dt
open PySem PySem.Spec PyProof.Rows L2

/-! ### a stable sort that computes -/
section
variable {α : Type} (le : α → α → Bool)
def insS (x : α) : List α → List α
  | [] => [x]
  | y :: ys => if le x y = true then x :: y :: ys else y :: insS x ys
def sortS : List α → List α
  | [] => []
  | x :: xs => insS le x (sortS xs)
end
section
variable {α : Type} {le : α → α → Bool}
theorem mem_insS {x z : α} : ∀ {l : List α}, z ∈ insS le x l ↔ z = x ∨ z ∈ l
  | [] => by simp [insS]
  | y :: ys => by
    unfold insS
    split
    · simp
    · simp only [List.mem_cons, mem_insS (l := ys)]
      constructor
      · rintro (h | h | h)
        · exact .inr (.inl h)
        · exact .inl h
        · exact .inr (.inr h)
      · rintro (h | h | h)
        · exact .inr (.inl h)
        · exact .inl h
        · exact .inr (.inr h)
theorem pw_insS (h : PySem.W.TotalLe le) {x : α} : ∀ {l : List α}, l.Pairwise (fun a b => le a b = true) → (insS le x l).Pairwise (fun a b => le a b = true)
  | [], _ => by simp [insS]
  | y :: ys, p => by
    obtain ⟨p1, p2⟩ := List.pairwise_cons.mp p
    unfold insS
    split
    · rename_i hx
      refine List.pairwise_cons.mpr ⟨fun z hz => ?_, p⟩
      rcases List.mem_cons.mp hz with rfl | hz
      · exact hx
      · exact h.trans _ _ _ hx (p1 z hz)
    · rename_i hx
      refine List.pairwise_cons.mpr ⟨fun z hz => ?_, pw_insS h p2⟩
      rcases mem_insS.mp hz with rfl | hz
      · exact (h.total y z).resolve_right hx
      · exact p1 z hz
theorem fil_insS (h : PySem.W.TotalLe le) {x c : α} : ∀ {l : List α}, l.Pairwise (fun a b => le a b = true) → (insS le x l).filter (PySem.W.sameRank le c) = (x :: l).filter (PySem.W.sameRank le c)
  | [], _ => by simp [insS]
  | y :: ys, p => by
    obtain ⟨p1, p2⟩ := List.pairwise_cons.mp p
    unfold insS
    split
    · rfl
    · rename_i hx
      have ih := fil_insS h (x := x) (c := c) p2
      rw [List.filter_cons, ih, List.filter_cons, List.filter_cons, List.filter_cons]
      by_cases sx : PySem.W.sameRank le c x = true
      · have sy : ¬ PySem.W.sameRank le c y = true := fun sy => hx (by
          unfold PySem.W.sameRank at sx sy
          rw [Bool.and_eq_true] at sx sy
          exact h.trans _ _ _ sx.2 sy.1)
        simp only [sx, sy, if_true]
        simp
      · simp only [sx]
        simp
theorem pw_sortS (h : PySem.W.TotalLe le) : ∀ l : List α, (sortS le l).Pairwise (fun a b => le a b = true)
  | [] => List.Pairwise.nil
  | x :: xs => pw_insS h (pw_sortS h xs)
theorem fil_sortS (h : PySem.W.TotalLe le) (c : α) : ∀ l : List α, (sortS le l).filter (PySem.W.sameRank le c) = l.filter (PySem.W.sameRank le c)
  | [] => rfl
  | x :: xs => by
    show (insS le x (sortS le xs)).filter _ = _
    rw [fil_insS h (pw_sortS h xs), List.filter_cons, List.filter_cons, fil_sortS h c xs]
theorem sortS_eq (h : PySem.W.TotalLe le) (l : List α) : sortS le l = l.mergeSort le := PySem.W.sort_unique h (pw_sortS h l) fun c => fil_sortS h c l
theorem length_insS {x : α} : ∀ l : List α, (insS le x l).length = l.length + 1
  | [] => rfl
  | y :: ys => by
    unfold insS
    split
    · rfl
    · rw [List.length_cons, length_insS ys, List.length_cons]
theorem length_sortS : ∀ l : List α, (sortS le l).length = l.length
  | [] => rfl
  | x :: xs => by
    show (insS le x (sortS le xs)).length = _
    rw [length_insS, length_sortS xs, List.length_cons]
end

/-! ### sorted of a list or tuple of alike data -/
section
variable {prog : Program} {w : World} {A : Around} {E : Value → Shared → Prop} {s : Shared}
theorem coll_tuple {l : Addr} {vs : List Value} {Q : List Value → Shared → Prop} (hl : s.heap.IsTuple l vs.toArray) (hsz : vs.length ≤ sizeLine) (h : Q vs { s with heap := (s.heap.push (seqObj "list" #[] 0)).update s.heap.objs.size (Obj.mapSeq (· ++ vs.toArray)) }) : wpAny (model prog w) A (collect (.ref l)) Q E s := by
  obtain ⟨o, ho, hc, n, hd⟩ := id hl
  unfold collect
  refine wpAny_bind (wpAny_runValue (codeAny_builtin entry_proto_collect' (show wpAny _ _ (do again (.builtin "list.__iadd__" ⟨[← newList [], .ref l], []⟩)) _ _ s from wpAny_bind (wpAny_newList (wpAny_pure ⟨Code.quiet_builtin _ (by decide +kernel), codeAny_builtin entry_list_iadd' ?_⟩)))))
  show wpAny _ _ (Builtin.List.listExtendWith (.ref s.heap.objs.size) (.ref l) (.ref s.heap.objs.size)) _ _ { s with heap := s.heap.push (seqObj "list" #[] 0) }
  unfold Builtin.List.listExtendWith
  have h1 : (s.heap.push (seqObj "list" #[] 0)).get? l = some o := Heap.get?_push_of_some _ ho
  refine wpAny_bind (wpAny_typeOf (T := "tuple") ⟨o, h1, hc⟩ ?_)
  rw [if_pos (by rw [show (Value.type "tuple" == Value.type "tuple") = true from rfl, Bool.or_true])]
  refine wpAny_bind (listItems_at h1 hd (wpAny_bind (listItems_at (xs := #[]) (n := 0) (Heap.get?_push_size _ rfl) rfl ?_)))
  rw [if_neg (by simp)]
  refine wpAny_bind (listUpdate_at (xs := #[]) (n := 0) (Heap.get?_push_size _ rfl) rfl (wpAny_pure ?_) (Nat.zero_le _) (by show (#[] ++ vs.toArray).size ≤ sizeLine + 1; simp only [Array.size_append, List.size_toArray, List.length_nil]; omega))
  show wpAny (model prog w) A (do
      let o ← load s.heap.objs.size
      match o.data with
        | .seq xs _ => pure xs.toList
        | _ => unsupported "internal:collect") Q E { s with heap := (s.heap.push (seqObj "list" #[] 0)).update s.heap.objs.size (Obj.mapSeq (· ++ vs.toArray)) }
  exact wpAny_bind (wpAny_load (get?_update_seq (Heap.get?_push_size _ rfl) _) (show wpAny _ _ (pure ((#[] : Array Value) ++ vs.toArray).toList) Q E _ from by rw [show ((#[] : Array Value) ++ vs.toArray).toList = vs by simp]; exact wpAny_pure h))
open PySem.W in
theorem sorted_tup_sort {l : Addr} {vs : List Value} {Q : Value → Shared → Prop} (hl : s.heap.IsTuple l vs.toArray) (hL : vs.length ≤ sizeLine)
    (body : ∀ E' : Value → Shared → Prop, wpAny (model prog w) A.in1.in1 (Builtin.«list.sort» ⟨[.ref (s.heap.objs.size + 1)], []⟩) (fun f s' => f = .done (.ret .none) ∧ Q (.ref (s.heap.objs.size + 1)) s') E' { s with heap := copyHeap s.heap vs }) : wpAny (model prog w) A (call (.builtin "sorted") [.ref l]) Q E s := by
  refine call_function_entry_kw kind_sorted plain_sorted entry_sorted (args_sorted1 _) ?_
  unfold Builtin.«sorted»
  refine wpAny_bind (m := checkCount "sorted" 1 1 _) (wpAny_pure (wpAny_bind (coll_tuple hl hL (wpAny_bind (wpAny_newList ?_ hL)))))
  have hsz : ((s.heap.push (seqObj "list" #[] 0)).update s.heap.objs.size (Obj.mapSeq (· ++ vs.toArray))).objs.size = s.heap.objs.size + 1 := by rw [Heap.size_update, size_push']
  show wpAny _ _ _ _ _ { s with heap := copyHeap s.heap vs }
  rw [hsz]
  exact wpAny_bind (wpAny_holding (wpAny_call_entry_kw slot_list_sort ⟨_, copyHeap_at s.heap vs, rfl⟩ entry_list_sort (wpAny_mono (body _) (fun f s' hf => by obtain ⟨rfl, hq⟩ := hf; exact ⟨_, rfl, wpAny_pure ⟨_, rfl, hq⟩⟩) fun _ _ e => e) (args_list_sort _)))
open PySem.W in
/-- sorted(v), v a list or a tuple of alike data -/
theorem sorted_seq {β : Type} {R : Value → β → Prop} {enc : β → PyData} {l : Addr} {vs : List Value} {bs : List β} {Q : Value → Shared → Prop} (hl : s.heap.IsList l vs.toArray ∨ s.heap.IsTuple l vs.toArray) (e : EachIs R vs bs) (er : EachIs (fun v b => ∃ as, Reads s.heap v (enc b) as) vs bs) (hal : AllAlike (bs.map enc)) (hk : Sortable (bs.map enc)) (hL : bs.length ≤ sizeLine)
    (hu : ∀ b, b ∈ bs → A.units + 2 + (enc b).depth < cLine) (h : ∀ out, out.length = bs.length → EachIs R out (bs.mergeSort (dataLe false enc)) → Q (.ref (s.heap.objs.size + 1)) { s with heap := sortedAll s.heap vs (List.toArray out) }) :
    wpAny (model prog w) A (call (.builtin "sorted") [.ref l]) Q E s := by
  rcases hl with hl | hl
  · exact sorted_data hl e er hal hk hL hu h
  · have er' : EachIs (fun v b => ∃ as, Reads (sortingHeap (copyHeap s.heap vs) (s.heap.objs.size + 1) vs) v (enc b) as) vs bs := er.mono fun _ _ ⟨as, r⟩ => ⟨as, PyProof.Rows.Reads.keeps (fun _ _ => sorting_copy_old) r⟩
    have hLv : vs.length ≤ sizeLine := by rw [e.length]; exact hL
    exact sorted_tup_sort hl hLv fun _ => list_sort_vals (s := { s with heap := copyHeap s.heap vs }) (copyHeap_at s.heap vs) (SortsAt.data (s := { s with heap := sortingHeap (copyHeap s.heap vs) (s.heap.objs.size + 1) vs }) (each_map (R := fun v d => ∃ as, Reads (sortingHeap (copyHeap s.heap vs) (s.heap.objs.size + 1) vs) v d as) enc er') hal hk (bound_map hu)) hLv ⟨rfl, h _ (by rw [sortVals_length false rfl]; exact e.length) (sortVals_data false e er' hal)⟩
end
def alikeB (ds : List PyData) : Bool := ds.all fun d => ds.all fun d' => PySem.W.alike d d'
def sortableB (ds : List PyData) : Bool := (ds.all fun d => match d with
    | .tuple (_ :: _) => true
    | _ => false) || ds.all fun d => match d with
    | .none => false
    | .tuple _ => false
    | _ => true
theorem alikeB_of {ds : List PyData} (h : alikeB ds = true) : PySem.W.AllAlike ds := fun d hd d' hd' => List.all_eq_true.mp (List.all_eq_true.mp h d hd) d' hd'
theorem sortableB_of {ds : List PyData} (h : sortableB ds = true) : PySem.W.Sortable ds := by
  unfold sortableB at h
  rw [Bool.or_eq_true] at h
  rcases h with h | h
  · refine .inl fun d hd => ?_
    have := List.all_eq_true.mp h d hd
    split at this
    · exact ⟨_, _, rfl⟩
    · cases this
  · refine .inr fun d hd => ?_
    have := List.all_eq_true.mp h d hd
    split at this
    · cases this
    · cases this
    · rename_i h1 h2
      exact ⟨fun z => h1 z, fun xs z => h2 xs z⟩
/-- sorted(v) by data -/
def rSortD (K : PySem.W.Frag) : List V → Hp → VK → Prop := fun vs H Q => ∃ (a : Addr) (bs : List (V × PyData)), vs = [V.ref a] ∧ (SqL K H a (bs.map (·.1)) ∨ SqT K H a (bs.map (·.1))) ∧ (∀ b ∈ bs, Dp K H b.1 b.2) ∧ alikeB (bs.map (·.2)) = true ∧ sortableB (bs.map (·.2)) = true ∧ (∀ b ∈ bs, b.2.depth ≤ 60) ∧
  ∀ p, H p = none → Q (.ref p) (upd H p (.lst ((bs.mergeSort (PySem.W.dataLe false (·.2))).map (·.1))))
theorem eachIs_vals {R : V → Value → Prop} : ∀ {bs : List (V × PyData)} {us : List Value}, Vals (bs.map (·.1)) us → PySem.W.EachIs (fun u b => RelV b.1 u) us bs
  | [], _, .nil => .nil
  | b :: bs, _, .cons r t => .cons r (eachIs_vals (R := R) t)
theorem vals_eachIs : ∀ {bs : List (V × PyData)} {us : List Value}, PySem.W.EachIs (fun u b => RelV b.1 u) us bs → Vals (bs.map (·.1)) us
  | [], _, .nil => .nil
  | b :: bs, _, .cons r t => .cons r (vals_eachIs t)
theorem reads_all {X : Cx} {pins : List (Addr × Obj)} {σ : L2.St} {H : Hp} {s : Shared} (I : Inv X pins σ H s) : ∀ {bs : List (V × PyData)} {us : List Value}, Vals (bs.map (·.1)) us → (∀ b ∈ bs, Dp X.K H b.1 b.2) → PySem.W.EachIs (fun u (b : V × PyData) => ∃ as, Reads s.heap u b.2 as) us bs
  | [], _, .nil, _ => .nil
  | b :: bs, _, .cons r t, h => .cons (Dp.reads I b.2 b.1 _ (h b (by simp)) r) (reads_all I t fun b' hb => h b' (List.mem_cons_of_mem _ hb))
theorem cr_sortD {X : Cx} (hu : X.A.units + 64 < cLine) : CallR X (.builtin "sorted") (rSortD X.K) := by
  intro pins s σ H vs us Q I r h
  obtain ⟨a, bs, rfl, hs, hd, hal, hso, hdp, q⟩ := h
  rw [Vals.ref1 r]
  have key : ∀ its : List Value, Vals (bs.map (·.1)) its → bs.length ≤ sizeLine → (s.heap.IsList a its.toArray ∨ s.heap.IsTuple a its.toArray) → wpAny (model X.prog X.w) X.A (call (.builtin "sorted") [.ref a]) (EP X pins σ Q) X.xe s := fun its rv hz hl => by
    refine sorted_seq (R := fun u (b : V × PyData) => RelV b.1 u) (enc := fun b : V × PyData => b.2) hl (eachIs_vals (R := RelV) rv) (reads_all I rv hd) (alikeB_of hal) (sortableB_of hso) hz (fun b hb => by have := hdp b hb; omega) fun out ho eo => ?_
    obtain ⟨ep, he⟩ := sortedAll_at s.heap its out.toArray
    have hv := vals_eachIs eo
    exact ⟨.ref _, _, I.laid (t' := s.toks) (o := .lst ((bs.mergeSort (PySem.W.dataLe false (·.2))).map (·.1))) (fun _ _ => sortedAll_old) (Nat.le_succ _) ⟨by rw [List.length_map, List.length_mergeSort]; exact hz, out, ep, hv, he⟩, rfl, q _ (I.hok.fresh (Nat.le_succ _))⟩
  rcases hs with hs | hs
  · obtain ⟨its, rv, pl, hz⟩ := I.list hs
    rw [List.length_map] at hz
    exact key its rv hz (.inl pl.isList)
  · obtain ⟨its, rv, pl, hz⟩ := I.tuple hs
    rw [List.length_map] at hz
    exact key its rv hz (.inr pl)
/-- the order of data -/
def leD : D × PyData → D × PyData → Bool := PySem.W.dataLe false fun p : D × PyData => p.2
theorem leD_total : PySem.W.TotalLe leD := PySem.W.sortLe_total (PyProof.Rows.listOrd PyProof.Rows.itemOrd) false fun p : D × PyData => PySem.W.keyToks p.2
def sortD (ps : List (D × PyData)) : List D := (sortS leD ps).map (·.1)
def oSorted : D → Res RV := fun d => (Res.of d.items).bind fun xs => (Res.of (D.pys xs)).bind fun ps => (Res.need (alikeB ps && sortableB ps && ps.all fun p => decide (p.depth ≤ 60))).bind fun _ => .ok (.own (.lst (sortD (xs.zip ps))))
section
variable {K : PySem.W.Frag} {T : Tab} {S H : Hp}
theorem pys_len : ∀ {xs : List D} {ps : List PyData}, D.pys xs = some ps → ps.length = xs.length
  | [], _, e => by cases e; rfl
  | x :: xs, ps, e => by
    rw [D.pys] at e
    split at e
    · rename_i p ps' e1 e2
      cases e
      rw [List.length_cons, List.length_cons, pys_len e2]
    · cases e
theorem pys_zip : ∀ {xs : List D} {ps : List PyData}, D.pys xs = some ps → ∀ q ∈ xs.zip ps, q.1.py = some q.2
  | [], _, e, q, hq => by cases e; simp at hq
  | x :: xs, ps, e, q, hq => by
    rw [D.pys] at e
    split at e
    · rename_i p ps' e1 e2
      cases e
      rw [List.zip_cons_cons] at hq
      rcases List.mem_cons.mp hq with rfl | hq
      · exact e1
      · exact pys_zip e2 q hq
    · cases e
theorem drs_of : ∀ {bs : List (V × D)}, (∀ b ∈ bs, DR K T S b.1 b.2) → DRs K T S (bs.map (·.1)) (bs.map (·.2))
  | [], _ => .nil
  | b :: bs, h => .cons (h b (by simp)) (drs_of fun b' hb => h b' (List.mem_cons_of_mem _ hb))
theorem drs_zip : ∀ {vs : List V} {xs : List D}, DRs K T S vs xs → ∀ b ∈ vs.zip xs, DR K T S b.1 b.2
  | _, _, .nil, b, hb => by simp at hb
  | _, _, .cons h r, b, hb => by
    rw [List.zip_cons_cons] at hb
    rcases List.mem_cons.mp hb with rfl | hb
    · exact h
    · exact drs_zip r b hb
theorem map_zip1 {α β : Type} : ∀ {xs : List α} {ys : List β}, xs.length = ys.length → (xs.zip ys).map (·.1) = xs
  | [], _, _ => by simp
  | x :: xs, [], h => by cases h
  | x :: xs, y :: ys, h => by rw [List.zip_cons_cons, List.map_cons, map_zip1 (by simpa using h)]
theorem map_zip2 {α β : Type} : ∀ {xs : List α} {ys : List β}, xs.length = ys.length → (xs.zip ys).map (·.2) = ys
  | [], ys, h => by cases ys <;> simp_all
  | x :: xs, [], h => by cases h
  | x :: xs, y :: ys, h => by rw [List.zip_cons_cons, List.map_cons, map_zip2 (by simpa using h)]
theorem op_rSortD : Op1 K T (fun x H Q => rSortD K [x] H Q) oSorted := by
  intro π F S ρ σ H x d res Q R hx hg q
  obtain ⟨xs, e1, hg⟩ := Res.bind_eq hg
  obtain ⟨ps, e2, hg⟩ := Res.bind_eq hg
  obtain ⟨_, e3, hg⟩ := Res.bind_eq hg
  cases hg
  have e2 := Res.of_eq e2
  have hb := Res.need_eq e3
  rw [Bool.and_eq_true, Bool.and_eq_true] at hb
  obtain ⟨a, vs, rfl, h1, h2⟩ := hx.items R.sS (Res.of_eq e1)
  have l1 := h2.length
  have l2 := pys_len e2
  -- the values with their data and their encodings
  let tr : List (V × (D × PyData)) := vs.zip (xs.zip ps)
  have lz : (xs.zip ps).length = xs.length := by rw [List.length_zip]; omega
  have m1 : tr.map (·.1) = vs := map_zip1 (by omega)
  have m2 : tr.map (·.2) = xs.zip ps := map_zip2 (by omega)
  have hall : ∀ t ∈ tr, DR K T S t.1 t.2.1 ∧ t.2.1.py = some t.2.2 := fun t ht => by
    have hz := List.of_mem_zip ht
    refine ⟨?_, pys_zip e2 _ hz.2⟩
    obtain ⟨i, hi⟩ := List.mem_iff_getElem?.mp ht
    rw [List.getElem?_zip_eq_some] at hi
    have h3 := hi.2
    rw [List.getElem?_zip_eq_some] at h3
    obtain ⟨d', hd1, hd2⟩ := h2.get' hi.1
    rw [h3.1] at hd1; cases hd1
    exact hd2
  refine ⟨a, tr.map fun t => (t.1, t.2.2), rfl, ?_, ?_, ?_, ?_, ?_, fun p hp => ?_⟩
  · rw [List.map_map]
    show SqL K H a (tr.map (·.1)) ∨ SqT K H a (tr.map (·.1))
    rw [m1]; exact h1
  · intro b hb
    obtain ⟨t, ht, rfl⟩ := List.mem_map.mp hb
    obtain ⟨h3, h4⟩ := hall t ht
    exact (h3.mono R.sS).dp h4
  · rw [List.map_map]
    show alikeB (tr.map fun t => t.2.2) = true
    rw [show (tr.map fun t => t.2.2) = (tr.map (·.2)).map (·.2) by rw [List.map_map]; rfl, m2, map_zip2 (by omega)]; exact hb.1.1
  · rw [List.map_map]
    show sortableB (tr.map fun t => t.2.2) = true
    rw [show (tr.map fun t => t.2.2) = (tr.map (·.2)).map (·.2) by rw [List.map_map]; rfl, m2, map_zip2 (by omega)]; exact hb.1.2
  · intro b hb'
    obtain ⟨t, ht, rfl⟩ := List.mem_map.mp hb'
    have : t.2.2 ∈ ps := (List.of_mem_zip (List.of_mem_zip ht).2).2
    exact of_decide_eq_true (List.all_eq_true.mp hb.2 _ this)
  · have hs : ((tr.map fun t => (t.1, t.2.2)).mergeSort (PySem.W.dataLe false fun b : V × PyData => b.2)) = (tr.mergeSort (PySem.W.dataLe false fun t : V × (D × PyData) => t.2.2)).map fun t => (t.1, t.2.2) := (PySem.W.sort_maps (fun t : V × (D × PyData) => (t.1, t.2.2)) fun _ _ _ _ => rfl).symm
    have hs2 : (xs.zip ps).mergeSort leD = (tr.mergeSort (PySem.W.dataLe false fun t : V × (D × PyData) => t.2.2)).map (·.2) := by
      rw [← m2]; exact (PySem.W.sort_maps (fun t : V × (D × PyData) => t.2) fun _ _ _ _ => rfl).symm
    rw [hs, List.map_map]
    have hdr : DRs K T S ((tr.mergeSort (PySem.W.dataLe false fun t : V × (D × PyData) => t.2.2)).map (·.1)) (sortD (xs.zip ps)) := by
      unfold sortD
      rw [sortS_eq leD_total, hs2, List.map_map]
      have := drs_of (K := K) (T := T) (S := S) (bs := (tr.mergeSort (PySem.W.dataLe false fun t : V × (D × PyData) => t.2.2)).map fun t => (t.1, t.2.1)) fun b hb => by
        obtain ⟨t, ht, rfl⟩ := List.mem_map.mp hb
        exact (hall t (List.mem_mergeSort.mp ht)).1
      rw [List.map_map, List.map_map] at this
      exact this
    obtain ⟨R2, rv⟩ := new_lst R hdr hp
    exact q _ _ _ (Same.refl S) R2 rv
end
theorem ee_sorted {X : Cx} {T : Tab} {a : Expr} {f : AF} {p pos : Pos} (hu : X.A.units + 64 < cLine) (hg : Gl X "sorted") (hm : X.mg "sorted" = none) (ha : PA X [a] (SA X.K T f)) (he : starEach [a] X.env = (false, eval a X.env) :: starEach [] X.env := by rfl) : PE X (.Call (.Name "sorted" p) [a] [] pos) (SE X.K T (eCB (c1 oSorted) f)) := ee_callB (cr_sortD hu) (opC1 op_rSortD) hg hm (by decide +kernel) ha (he := he)
end Dt
end

section
set_option Elab.async false
set_option linter.all false
set_option maxRecDepth 100000
set_option maxHeartbeats 4000000
set_option autoImplicit false
namespace Dt
open PySem PySem.Spec PyProof.Rows L2

/-! ### any, all of bools -/
def bls : List D → Option (List Bool)
  | [] => some []
  | .bl b :: r => (bls r).map (b :: ·)
  | _ :: _ => none
def oAny : D → Res RV
  | .lst xs => (Res.of (bls xs)).bind fun bs => .ok (.fro (.bl (bs.any id)))
  | _ => .bad
def oAll : D → Res RV
  | .lst xs => (Res.of (bls xs)).bind fun bs => .ok (.fro (.bl (bs.all id)))
  | _ => .bad
section
variable {K : PySem.W.Frag} {T : Tab} {S H : Hp}
theorem DRs.bls : ∀ {vs : List V} {ds : List D} {bs : List Bool}, DRs K T S vs ds → Dt.bls ds = some bs → vs = bs.map V.bl
  | _, _, _, .nil, e => by cases e; rfl
  | v :: vs, d :: ds, bs, .cons h r, e => by
    cases d <;> first | (cases e; done) | skip
    obtain ⟨bs', e1, rfl⟩ := Option.map_eq_some_iff.mp e
    cases h
    rw [DRs.bls r e1]; rfl
theorem oc_any : OpC K T (rAny K) (c1 oAny) := opC1 (by
  intro π F S ρ σ H x d res Q R hx hg q
  cases d <;> first | (cases hg; done) | skip
  obtain ⟨bs, e1, hg⟩ := Res.bind_eq hg
  cases hg
  obtain ⟨a, vs, rfl, h1, h2⟩ := hx.lst R.sS
  refine ⟨a, bs, rfl, ?_, q S H _ (Same.refl S) R (.bl _)⟩
  rw [← h2.bls (Res.of_eq e1)]; exact .of h1)
theorem oc_all : OpC K T (rAll K) (c1 oAll) := opC1 (by
  intro π F S ρ σ H x d res Q R hx hg q
  cases d <;> first | (cases hg; done) | skip
  obtain ⟨bs, e1, hg⟩ := Res.bind_eq hg
  cases hg
  obtain ⟨a, vs, rfl, h1, h2⟩ := hx.lst R.sS
  refine ⟨a, bs, rfl, ?_, q S H _ (Same.refl S) R (.bl _)⟩
  rw [← h2.bls (Res.of_eq e1)]; exact .of h1)
end
section
variable {X : Cx} {T : Tab} {p pos : Pos} {a b : Expr} {es : List Expr} {f : AF} {fa : EF}
theorem ee_any (hc : X.calm = true) (hg : Gl X "any") (hm : X.mg "any" = none) (ha : PA X [a] (SA X.K T f)) (he : starEach [a] X.env = (false, eval a X.env) :: starEach [] X.env := by rfl) : PE X (.Call (.Name "any" p) [a] [] pos) (SE X.K T (eCB (c1 oAny) f)) := ee_callB (cr_any hc) oc_any hg hm (by decide +kernel) ha (he := he)
theorem ee_all (hc : X.calm = true) (hg : Gl X "all") (hm : X.mg "all" = none) (ha : PA X [a] (SA X.K T f)) (he : starEach [a] X.env = (false, eval a X.env) :: starEach [] X.env := by rfl) : PE X (.Call (.Name "all" p) [a] [] pos) (SE X.K T (eCB (c1 oAll) f)) := ee_callB (cr_all hc) oc_all hg hm (by decide +kernel) ha (he := he)
end

/-! ### isinstance -/
/-- the answers by kind: none, bool, int, text, tuple, list; then by own class -/
structure Isi where
  n : Bool
  b : Bool
  i : Bool
  s : Bool
  t : Bool
  l : Bool
  o : List (Nat × Bool)
def Isi.of (k : Isi) : D → Option Bool
  | .non => some k.n
  | .bl _ => some k.b
  | .int _ => some k.i
  | .str _ => some k.s
  | .tup _ => some k.t
  | .lst _ => some k.l
  | .scr _ => some k.l
  | .obj c _ => k.o.lookup c
  | _ => none
/-- what isinstance asks of an own class -/
structure ClsI (K : PySem.W.Frag) (C : Addr) : Prop where
  cl : Cls K C
  ha : PySem.W.findIn K (.ref C) "__class__" = some (some (.builtin "object.__class__"))
  hn : PySem.W.specialIn K (.builtin "object.__class__") "__get__" = some (some (.builtin "getset_descriptor.__get__"))
  htk : PySem.W.takesIn K (.builtin "object.__class__") = some true
  hm : PySem.W.mroIn K C (.type "object") = some true
structure IsiOk (K : PySem.W.Frag) (T : Tab) (u : Value) (k : Isi) : Prop where
  n : PySem.W.kitOne K (.type "NoneType") u = some k.n
  b : PySem.W.kitOne K (.type "bool") u = some k.b
  i : PySem.W.kitOne K (.type "int") u = some k.i
  s : PySem.W.kitOne K (.type "str") u = some k.s
  t : PySem.W.kitOne K (.type "tuple") u = some k.t
  l : PySem.W.kitOne K (.type "list") u = some k.l
  o : ∀ c b, k.o.lookup c = some b → ClsI K (T.ca c) ∧ PySem.W.kitOne K (.ref (T.ca c)) u = some b
section
variable {K : PySem.W.Frag} {T : Tab} {S H : Hp}
theorem tyx_lst {a : Addr} {xs : List V} (h : SqL K H a xs) : TyX K H (.ref a) (.type "list") := by
  rcases h with (h | ⟨o, h⟩) | ⟨o, its, n, h1, h2, _⟩
  · exact .base (.lst h)
  · exact .base (.frz h)
  · exact .kList h1 h2
theorem tyx_tup {a : Addr} {xs : List V} (h : SqT K H a xs) : TyX K H (.ref a) (.type "tuple") := by
  rcases h with (h | ⟨o, h⟩) | ⟨o, its, n, h1, h2, _⟩
  · exact .base (.tup h)
  · exact .fTuple h
  · exact .kTuple h1 h2
theorem IsiOk.at {u : Value} {k : Isi} (ok : IsiOk K T u k) (sS : Same S H) {v : V} {d : D} {b : Bool} (h : RD K T S H v d) (e : k.of d = some b) : ∃ t, TyX K H v t ∧ PySem.W.kitOne K t u = some b := by
  cases d <;> first | (cases e; done) | skip
  · cases e; cases h.non; exact ⟨_, .base .non, ok.n⟩
  · cases e; cases h.bl; exact ⟨_, .base (.bl _), ok.b⟩
  · cases e; cases h.int; exact ⟨_, .base (.int _), ok.i⟩
  · cases e; cases h.str; exact ⟨_, .base (.str _), ok.s⟩
  · cases e
    obtain ⟨a, vs, rfl, h1, _⟩ := h.tup
    exact ⟨_, tyx_tup (sqT_same sS h1), ok.t⟩
  · cases e
    obtain ⟨a, vs, rfl, h1, _⟩ := h.lst sS
    exact ⟨_, .base (.lst h1), ok.l⟩
  · cases e
    obtain ⟨a, rfl, h1⟩ := h.scr sS
    exact ⟨_, tyx_lst h1, ok.l⟩
  · obtain ⟨a, dx, fs, rfl, h1, _, _⟩ := h.obj sS
    obtain ⟨c, q⟩ := ok.o _ _ e
    exact ⟨_, .base (.ins h1 c.cl c.ha c.hn c.htk c.hm), q⟩
end
def oIsi (k : Isi) : D → Res RV := fun d => (Res.of (k.of d)).bind fun b => .ok (.fro (.bl b))
section
variable {X : Cx} {T : Tab} {p pos : Pos} {a b : Expr} {fa : EF} {c : V} {u : Value} {k : Isi}
theorem ee_isi (kc : ClsV c u) (ok : IsiOk X.K T u k) (hg : Gl X "isinstance") (hm : X.mg "isinstance" = none) (ha : PE X a (SE X.K T fa)) (hb : PE X b (tC c)) (h1 : starEach [a, b] X.env = (false, eval a X.env) :: starEach [b] X.env := by rfl) (h2 : starEach [b] X.env = (false, eval b X.env) :: starEach [] X.env := by rfl)
    (hpl : (backTo pos (starEach [b] X.env)).any (·.1) = false := by rfl) : PE X (.Call (.Name "isinstance" p) [a, b] [] pos) (SE X.K T (e1 (oIsi k) fa)) := (pe_callB call_isi hg hm (by decide +kernel) (pa_cons ha (pa_cons hb pa_nil h2) h1) (he := h1) (hpl := hpl)).imp fun σ H Q q => SE.e1 (r := fun x H Q => rIsi X.K [x, c] H Q) (by
  intro π F S ρ σ H x d res Q R hx hg q
  obtain ⟨b', e1, hg⟩ := Res.bind_eq hg
  cases hg
  obtain ⟨t, h1, h2⟩ := ok.at R.sS hx (Res.of_eq e1)
  exact ⟨x, c, t, u, b', rfl, kc, h1, h2, q S H _ (Same.refl S) R (.bl _)⟩) q
theorem tt_isi (kc : ClsV c u) (ok : IsiOk X.K T u k) (hg : Gl X "isinstance") (hm : X.mg "isinstance" = none) (ha : PE X a (SE X.K T fa)) (hb : PE X b (tC c)) (h1 : starEach [a, b] X.env = (false, eval a X.env) :: starEach [b] X.env := by rfl) (h2 : starEach [b] X.env = (false, eval b X.env) :: starEach [] X.env := by rfl)
    (hpl : (backTo pos (starEach [b] X.env)).any (·.1) = false := by rfl) : PT X (.Call (.Name "isinstance" p) [a, b] [] pos) (ST X.K T (bB (e1 (oIsi k) fa))) := tt_B (ee_isi kc ok hg hm ha hb h1 h2 hpl)
end

/-! ### a callee that is given frozen data alone: properties, len of an own class, methods -/
section
variable {K : PySem.W.Frag} {T : Tab} {π σ : L2.St} {F S S' H H' : Hp} {ρ ρ' : Env} {a : Addr} {v : V} {d : D} {r : RV}
theorem SpF.fros {ff : Fm} {vs : List V} {ds : List D} {cs' : List Cell} {Q : VK} {E : XK} (R : Rel K T π F S ρ σ H) (h : DRs K T S vs ds) (e : ff (ds.map .fro) = .ok (r, cs')) (m : r.made = true)
    (q : ∀ S' H' v, Same S S' → Rel K T π F S' ρ σ H' → RVR K T F S' H' ρ σ v r → Q v H') : SpF K T ff vs H Q E :=
  ⟨_, S, _, _, _, rel_fros R h, e, m, fun S' H' v s' R' rv => by
    have R2 : Rel K T π F S' ρ σ H' := R.back s' R'.sS R'.sF R'.dj R'.nS R'.tb (fun _ _ _ => rfl) fun _ _ _ _ _ _ => rfl
    exact q S' H' v s' R2 (rv.back R m (fun _ _ _ => rfl) fun a h _ _ => ap_none R _ (fun _ _ _ _ _ _ => rfl) h)⟩
end
/-- a def of one frozen object of the class -/
def oSelf (c : Nat) (ff : Fm) : EF → EF := fun f ρ => (f ρ).bind fun p => match p.1 with
  | .fro (.obj n ds) => (Res.need (n == c)).bind fun _ => (ff [.fro (.obj n ds)]).bind fun q => (Res.need q.1.made).bind fun _ => .ok (q.1, p.2)
  | _ => .bad
section
variable {X : Cx} {CX : CXT} {T : Tab} {k c : Nat} {C p g : Addr} {fd : FuncData} {ps : List Str} {E : XK} {f : Str} {e a : Expr} {pos np : Pos} {fe : EF} {ff : Fm}
theorem self_run {σ : L2.St} {H : Hp} {Q : VK} (q : SE X.K T (oSelf c ff fe) σ H Q) : SE X.K T fe σ H fun x H1 => ∃ a dx fs, x = .ref a ∧ H1 a = some (.ins (T.ca c) dx fs) ∧ SpF X.K T ff [.ref a] H1 Q E := by
  obtain ⟨π, F, S, ρ, r, ρ', R, e, q⟩ := q
  obtain ⟨⟨x, ρ1⟩, e1, e⟩ := Res.bind_eq e
  refine ⟨π, F, S, ρ, x, ρ1, R, e1, fun S1 H1 v s1 R1 rv => ?_⟩
  cases x <;> first | (cases e; done) | skip
  rename_i d
  cases d <;> first | (cases e; done) | skip
  rename_i n ds
  obtain ⟨_, e2, e⟩ := Res.bind_eq e
  obtain ⟨⟨r', cs'⟩, e3, e⟩ := Res.bind_eq e
  obtain ⟨_, e4, e⟩ := Res.bind_eq e
  cases e
  have en : n = c := beq_iff_eq.mp (Res.need_eq e2)
  subst en
  have rv : DR X.K T S1 v (.obj n ds) := rv
  cases rv with
  | obj h1 h2 h3 => exact ⟨_, _, _, rfl, R1.sS _ _ h1, SpF.fros R1 (.cons (.obj h1 h2 h3) .nil) e3 (Res.need_eq e4) fun S' H' v s R' rv => q S' H' v (s1.trans s) R' rv⟩
theorem ee_prop (hc : T.ca c = C) (cl : Cls X.K C) (hp : PropOf X.K C f p g) (G : FnOk X.prog X.w X.K X.mg X.base CX k g fd ps (SpF X.K T ff)) (hr : Room (k + 1) X.A) (hb : Binds X.K fd ps []) (hx : Passes CX X.nox E) (he : PE X e (SE X.K T fe))
    (hab : attributeBase e f X.env (eval e X.env) = eval e X.env := by rfl) : PE X (.Attribute e f pos) (SE X.K T (oSelf c ff fe)) := (pe_prop he cl hp G hr hb .nil hx hab).imp fun σ H Q q => by
  subst hc
  exact self_run (E := E) q
/-- len(o), o of an own class -/
def rLenO (C : Addr) (sp : Sp) (E : XK) : List V → Hp → VK → Prop := fun xs H Q => ∃ a dx fs, xs = [.ref a] ∧ H a = some (.ins C dx fs) ∧ sp [.ref a] H (fun v H' => ∃ n : Int, v = .int n ∧ (0 ≤ n ∧ n < 2 ^ 63) ∧ Q (.int n) H') E
theorem cr_lenO {sp : Sp} (hl : PySem.W.findIn X.K (.ref C) "__len__" = some (some (.ref g))) (hf : PySem.W.isFn X.K (.ref g) = true) (G : FnOk X.prog X.w X.K X.mg X.base CX k g fd ps sp) (hr : Room (k + 1) X.A) (hb : Binds X.K fd ps []) (hx : Passes CX X E) :
    CallR X (.builtin "len") (rLenO C sp E) := by
  intro pins s σ H xs us Q I r h
  obtain ⟨a, dx, fs, rfl, ea, h⟩ := h
  rw [Vals.ref1 r]
  obtain ⟨mA, O, _⟩ := ins_get I.hok ea
  obtain ⟨od, J, _⟩ := O.look
  refine Calls.call_function_entry kind_len plain_len entry_len (args_len1 (.ref a)) ?_; unfold Builtin.«len»
  refine wpAny_bind (m := oneArg "len" _) (wpAny_pure ?_)
  refine wpAny_bind (m := callSpecial? (.ref a) (Str.ofString "__len__")) (PySem.W.special_fn I.kIn J hl (beq_iff_eq.mp hf) (wpAny_call (codeAny_mono (G.run X.A.in1 X.stack s H ⟨[.ref a], []⟩ [.ref a] [.ref a] _ E hr.in1 I.env0.in1 (by
    have := hb s [.ref a] I.kIn (by rw [← G.len _ _ _ _ h]; rfl)
    simpa using this) (.cons rfl .nil) h) fun r s' hq => ?_)))
  cases r with
  | error er => exact hx pins σ H s er s' I hq
  | ok fl =>
    cases fl with
    | ret u =>
      obtain ⟨v, H', I3, rv, n, rfl, ⟨h0, h1⟩, q3⟩ := I.after hq
      obtain ⟨t, rfl⟩ : ∃ t, u = Value.int n t := rv
      refine wpAny_bind (wpAny_holding (wpAny_pure ?_)); refine wpAny_bind (wpAny_letGo ?_)
      show wpAny _ _ (if n < 0 then _ else _) _ _ _; rw [if_neg (by omega)]
      show wpAny _ _ (if n ≥ 2 ^ 63 then _ else _) _ _ _; rw [if_neg (by omega)]
      exact wpAny_bind (wpAny_mkInt (wpAny_pure ⟨_, rfl, .int n, H', I3.tok _, ⟨_, rfl⟩, q3⟩))
    | next => exact False.elim hq
    | brk => exact False.elim hq
    | cont => exact False.elim hq
end
theorem SE.mono {K : PySem.W.Frag} {T : Tab} {f : EF} {σ : L2.St} {H : Hp} {Q Q' : VK} (q : SE K T f σ H Q) (h : ∀ v H, Q v H → Q' v H) : SE K T f σ H Q' := by
  obtain ⟨π, F, S, ρ, r, ρ', R, e, q⟩ := q
  exact ⟨π, F, S, ρ, r, ρ', R, e, fun S' H' v s' R' rv => h _ _ (q S' H' v s' R' rv)⟩
def eLenO (c : Nat) (ff : Fm) (f : EF) : EF := fun ρ => (oSelf c ff f ρ).bind fun p => match p.1 with
  | .fro (.int n) => (Res.need (decide (0 ≤ n) && decide (n < 2 ^ 63))).bind fun _ => .ok (.fro (.int n), p.2)
  | _ => .bad
section
variable {X : Cx} {CX : CXT} {T : Tab} {k c : Nat} {C p g f : Addr} {fd : FuncData} {ps : List Str} {E : XK} {x m : Str} {e a o : Expr} {es : List Expr} {pos np apos : Pos} {fe : EF} {ff : Fm} {ga : AF}
theorem ee_lenO (hc : T.ca c = C) (hl : PySem.W.findIn X.K (.ref C) "__len__" = some (some (.ref g))) (hf : PySem.W.isFn X.K (.ref g) = true) (G : FnOk X.prog X.w X.K X.mg X.base CX k g fd ps (SpF X.K T ff)) (hr : Room (k + 1) X.A) (hb : Binds X.K fd ps []) (hx : Passes CX X E)
    (hg : Gl X "len") (hm : X.mg "len" = none) (he : PE X e (SE X.K T fe)) (h1 : starEach [e] X.env = (false, eval e X.env) :: starEach [] X.env := by rfl) (hpl : (backTo pos (starEach [] X.env)).any (·.1) = false := by rfl) :
    PE X (.Call (.Name "len" np) [e] [] pos) (SE X.K T (eLenO c ff fe)) := (pe_callB (cr_lenO hl hf G hr hb hx) hg hm PySem.boot_len (pa_cons he pa_nil h1) (he := h1) (hpl := hpl)).imp fun σ H Q ⟨π, F, S, ρ, r, ρ', R, e, q⟩ => by
  subst hc
  obtain ⟨⟨r1, ρ1⟩, e1, e⟩ := Res.bind_eq e
  cases r1 <;> first | (cases e; done) | skip
  rename_i d
  cases d <;> first | (cases e; done) | skip
  rename_i n
  obtain ⟨_, e2, e⟩ := Res.bind_eq e
  cases e
  have e2 := Res.need_eq e2
  rw [Bool.and_eq_true] at e2
  have z := self_run (E := E) (c := c) (ff := ff) (fe := fe) (σ := σ) (H := H) (X := X) (T := T) (Q := fun v H' => ∃ n : Int, v = .int n ∧ (0 ≤ n ∧ n < 2 ^ 63) ∧ Q (.int n) H') ⟨π, F, S, ρ, _, _, R, e1, fun S' H' v s R' rv => by
    cases (show DR X.K T S' v (.int n) from rv)
    exact ⟨n, rfl, ⟨of_decide_eq_true e2.1, of_decide_eq_true e2.2⟩, q S' H' _ s R' rv⟩⟩
  refine SE.mono z fun v H' h => ?_
  obtain ⟨a, dx, fs, rfl, h1, h2⟩ := h
  exact ⟨a, dx, fs, rfl, h1, h2⟩

/-! ### making an instance -/
def eMake (c : Nat) (ff : Fm) (g : AF) : EF := fun ρ => (g ρ).bind fun p => (Res.of (frozen p.1)).bind fun ds => (ff (.brw (.obj c []) :: ds.map .fro)).bind fun q => match q.1, q.2[(0 : Nat)]? with
  | RV.fro D.non, some (Cell.brw d) => .ok (.own d, p.2)
  | _, _ => .bad
theorem make_run {σ : L2.St} {H : Hp} {Q : VK} (q : SE X.K T (eMake c ff ga) σ H Q) : tMake (T.ca c) (SpF X.K T ff) [] E (SA X.K T ga) σ H Q := by
  obtain ⟨π, F, S, ρ, r, ρ', R, e, q⟩ := q
  obtain ⟨⟨rs, ρ1⟩, e1, e⟩ := Res.bind_eq e
  obtain ⟨ds, e2, e⟩ := Res.bind_eq e
  obtain ⟨⟨r', cs'⟩, e3, e⟩ := Res.bind_eq e
  refine ⟨π, F, S, ρ, rs, ρ1, R, e1, fun S1 H1 vs s1 R1 hv => ?_⟩
  intro x dx hx hdx ne
  rw [List.append_nil]
  have hd := hv.frozen (Res.of_eq e2)
  have hx2 : (upd H1 dx (.own x)) x = none := by rw [upd_ne (Ne.symm ne)]; exact hx
  have R2 : Rel X.K T π F S1 ρ1 σ (upd (upd H1 dx (.own x)) x (.ins (T.ca c) dx [])) := (R1.alloc hdx).alloc hx2
  have nS : S1 x = none := same_none R1.sS hx
  have nF : F x = none := same_none R1.sF hx
  have ap : Apart ρ1 σ x := R1.apart hx
  have ow : Own X.K T F S1 (upd (upd H1 dx (.own x)) x (.ins (T.ca c) dx [])) x (.obj c []) := ⟨nS, nF, dx, [], upd_same, by simp, .nil⟩
  have hP : ∀ b o, F b = some o → (b == x) = false := fun b o h => by
    have : b ≠ x := fun z => by rw [z, nF] at h; cases h
    simpa using this
  have hO : ∀ (i : Nat) (cc : Cell) (b : Addr), ρ1[i]? = some cc → cc.mut = true → σ[i]? = some (some (V.ref b)) → (b == x) = false := fun i cc b hc m e => by
    have : b ≠ x := fun z => ap i cc hc m (by rw [e, z])
    simpa using this
  refine ⟨_, S1, _, r', cs', rel_mid (us := []) (A := []) R2 .nil hd ow, e3, ?_, fun S' H' v s' R' rv => ?_⟩
  · split at e
    · rename_i e0 _
      have e0 : r' = _ := e0
      rw [e0]; rfl
    · cases e
  · split at e
    · rename_i d' e0 hd'
      have e0 : r' = _ := e0
      have hd' : cs'[0]? = _ := hd'
      cases e
      subst e0
      cases (show DR X.K T S' v .non from rv)
      refine ⟨rfl, ?_⟩
      obtain ⟨b, q1, _, q2⟩ := R'.sl 0 _ hd'
      have q1 : some (some (V.ref x)) = some (some (V.ref b)) := q1
      cases q1
      have R3 : Rel X.K T π F S' ρ1 σ H' := R2.back (P := fun b => b == x) s' R'.sS R'.sF R'.dj R'.nS R'.tb hP hO
      exact q S' H' _ (s1.trans s') R3 ⟨x, rfl, ⟨q2.1, nF, q2.2.2⟩, ap⟩
    · cases e
theorem ee_make (hc : T.ca c = C) (M : Mk X.K C f) (G : FnOk X.prog X.w X.K X.mg X.base CX k f fd ps (SpF X.K T ff)) (hr : Room (k + 1) X.A) (hg : Gl X x) (hm : X.mg x = some (.ref C)) (hb : Binds X.K fd ps []) (hx : Passes CX X E)
    (ha : PA X (e :: es) (SA X.K T ga)) (hdb : (x == ("__debug__" : Str)) = false := by decide) (he : starEach (e :: es) X.env = (false, eval e X.env) :: starEach es X.env := by rfl) (hpl : (backTo pos (starEach es X.env)).any (·.1) = false := by rfl) :
    PE X (.Call (.Name x np) (e :: es) [] pos) (SE X.K T (eMake c ff ga)) := (pe_make M G hr hg hm hb .nil hx ha hdb he hpl).imp fun σ H Q q => by
  subst hc
  exact make_run q
end

/-! ### two fors in a comprehension -/
def lcL2 (g : GF) (tt : BF) (src1 : IF) (g1 : GF) (vs1 vs : List Nat) (tt1 : BF) (te : EF) : List D → Env → List D → Res (List D × Env)
  | [], ρ, acc => .ok (acc, ρ)
  | d :: ds, ρ, acc => (g d ρ).bind fun ρ1 => (tt ρ1).bind fun p => if p.1 = true then
      (src1 p.2).bind fun q => (lcL g1 vs1 tt1 te q.1 (wipeE q.2 vs1) acc).bind fun z => lcL2 g tt src1 g1 vs1 vs tt1 te ds (wipeE z.2 vs) z.1
    else lcL2 g tt src1 g1 vs1 vs tt1 te ds (wipeE p.2 vs) acc
def eLc2 (g : GF) (src : IF) (tt : BF) (src1 : IF) (g1 : GF) (vs1 vs : List Nat) (tt1 : BF) (te : EF) : EF := fun ρ => (src ρ).bind fun p => (lcL2 g tt src1 g1 vs1 vs tt1 te p.1 (wipeE p.2 vs) []).bind fun q => .ok (.own (.lst q.1), q.2)
section
variable {K : PySem.W.Frag} {T : Tab} {π : L2.St} {F S0 : Hp} {g g1 : GF} {is is1 vs vs1 : List Nat} {ft ft1 : BF} {fe : EF} {src src1 : IF} {J : It} {A : Addr} {ds out : List D} {ρ2 : Env}
/-- the state of a comprehension's loop ahead of item i -/
def LcW (K : PySem.W.Frag) (T : Tab) (π : L2.St) (F S0 : Hp) (τ : L2.St) (vs : List Nat) (A : Addr) (ds : List D) (more : List D → Env → List D → Prop) (i m : Nat) (H : Hp) : Prop := m = ds.length - i ∧ i ≤ ds.length ∧ ∃ S1 ρ3 accV acc, Same S0 S1 ∧ Rel K T π F S1 ρ3 τ H ∧ H A = some (.lst accV) ∧ S1 A = none ∧ F A = none ∧ Apart ρ3 τ A ∧ DRs K T S1 accV acc ∧
  (∀ i ∈ vs, ∀ c, ρ3[i]? = some c → c = .un) ∧ more (ds.drop i) ρ3 acc
theorem wun (τ : Env) : ∀ i ∈ vs, ∀ c, (wipeE τ vs)[i]? = some c → c = .un := fun i hi c hc => by
  rcases wipeE_get hc with z | ⟨_, n⟩
  · exact z
  · exact absurd hi n
theorem lc_loop (hvs : ∀ i ∈ is, i ∈ vs) {σ : L2.St} (ok : ItOk K T J S0 ds) {End : Hp → Prop}
    (hEnd : ∀ S1 H1 accV, Same S0 S1 → Rel K T π F S1 ρ2 (wipe σ vs) H1 → H1 A = some (.lst accV) → S1 A = none → F A = none → Apart ρ2 (wipe σ vs) A → DRs K T S1 accV out → (∀ i ∈ vs, ∀ c, ρ2[i]? = some c → c = .un) → End H1)
    (i m : Nat) (H1 : Hp) (w : LcW K T π F S0 (wipe σ vs) vs A ds (fun l ρ acc => lcL g vs ft fe l ρ acc = .ok (out, ρ2)) i m H1) :
    (J.stop i H1 ∧ End H1) ∨ (J.go i H1 ∧ ∃ Nx : Hp → Prop, (∀ H', Nx H' → ∃ m', m' < m ∧ LcW K T π F S0 (wipe σ vs) vs A ds (fun l ρ acc => lcL g vs ft fe l ρ acc = .ok (out, ρ2)) (i + 1) m' H') ∧
      ∀ x H', J.yld i H1 x H' → SG K T g is x (wipe σ vs) H' fun σ2 H2 => wipe σ2 vs = wipe σ vs ∧ ST K T ft σ2 H2 fun b H3 => if b = true then SE K T fe σ2 H3 fun y H4 => ∃ acc, H4 A = some (.lst acc) ∧ acc.length < sizeLine ∧ Nx (upd H4 A (.lst (acc ++ [y]))) else Nx H3) := by
  obtain ⟨rfl, hi, S1, ρ3, accV, acc, s1, R1, hA1, nS, nF, ap, hacc, hun, e3⟩ := w
  have hw : ∀ (τ : L2.St) i, i ∉ vs → (wipe τ vs)[i]? = τ[i]? := fun τ i hi => wipe_out hi
  by_cases hl : i < ds.length
  · refine .inr ?_
    have hd : ds[i]? = some ds[i] := List.getElem?_eq_getElem hl
    obtain ⟨go, yl⟩ := ok.2 i _ hd H1 (s1.trans R1.sS)
    refine ⟨go, fun H' => LcW K T π F S0 (wipe σ vs) vs A ds (fun l ρ acc => lcL g vs ft fe l ρ acc = .ok (out, ρ2)) (i + 1) (ds.length - (i + 1)) H', fun H' h => ⟨_, by omega, h⟩, fun x H' hy => ?_⟩
    rw [List.drop_eq_getElem_cons hl] at e3
    obtain ⟨ρ4, e4, e5⟩ := Res.bind_eq e3
    obtain ⟨⟨b, ρ5⟩, e6, e7⟩ := Res.bind_eq e5
    have hx := (yl x H' hy).mono s1
    have RL := R1.lend (d := .lst acc) ⟨nS, nF, accV, hA1, hacc⟩ ap hA1
    obtain ⟨S2, s2, R2, dx, _⟩ := came RL hx
    refine ⟨π, _, S2, ρ3, ds[i], ρ4, R2, dx, e4, fun σ2 R3 w => ?_⟩
    have w2 := w vs hvs
    rw [wipe_wipe] at w2
    refine ⟨w2, ?_⟩
    have hσ : ∀ k, k ∉ vs → (wipe σ vs)[k]? = σ2[k]? := fun k hk => by rw [← w2]; exact hw σ2 k hk
    have hl2 : (wipe σ vs).length = σ2.length := by rw [← w2, wipe_length]
    refine ⟨π, _, S2, ρ4, b, ρ5, R3, e6, fun S3 H3 s3 R4 => ?_⟩
    cases b with
    | false =>
      refine ⟨rfl, hl, S3, wipeE ρ5 vs, accV, acc, s1.trans (s2.trans s3), ?_, ?_, ?_, nF, ?_, hacc.mono (s2.trans s3), wun ρ5, e7⟩
      · exact (Rel.unlend nF R4).1.wipe vs hl2 hσ
      · exact (Rel.unlend nF R4).2.1
      · exact (Rel.unlend nF R4).2.2.1
      · exact (Rel.unlend nF R4).2.2.2.wipe vs hσ
    | true =>
      obtain ⟨⟨ry, ρ6⟩, e8, e9⟩ := Res.bind_eq (show (fe ρ5).bind _ = _ from e7)
      obtain ⟨y, e10, e11⟩ := Res.bind_eq e9
      refine ⟨π, _, S3, ρ5, ry, ρ6, R4, e8, fun S4 H4 v s4 R5 rv => ?_⟩
      obtain ⟨S5, s5, R6, hy⟩ := rv.take R5 (Res.of_eq e10)
      obtain ⟨R7, nS5, ap5, hA5, hacc5⟩ := lc_put nF R6 (hacc.mono (s2.trans (s3.trans (s4.trans s5)))) hy
      have e11 : (if acc.length < sizeLine then lcL g vs ft fe (ds.drop (i + 1)) (wipeE ρ6 vs) (acc ++ [y]) else .bad) = .ok (out, ρ2) := e11
      split at e11
      · rename_i hz
        refine ⟨accV, hA5, by rw [hacc.length]; exact hz, rfl, hl, S5, wipeE ρ6 vs, accV ++ [v], acc ++ [y], s1.trans (s2.trans (s3.trans (s4.trans s5))), R7.wipe vs hl2 hσ, upd_same, nS5, nF, ap5.wipe vs hσ, hacc5, wun ρ6, e11⟩
      · cases e11
  · have ei : i = ds.length := by omega
    subst ei
    rw [List.drop_length] at e3
    cases e3
    exact .inl ⟨ok.1 H1 (s1.trans R1.sS), hEnd S1 H1 accV s1 R1 hA1 nS nF ap hacc hun⟩
theorem lc2_run (hvs : ∀ i ∈ is, i ∈ vs) (hvs1 : ∀ i ∈ is1, i ∈ vs1) (hv : ∀ i ∈ vs1, i ∈ vs) {σ : L2.St} {H : Hp} {Q : VK} (h : SE K T (eLc2 g src ft src1 g1 vs1 vs ft1 fe) σ H Q) :
    tLc2 (SI K T src) (SG K T g is) (ST K T ft) (SI K T src1) (SG K T g1 is1) (ST K T ft1) (SE K T fe) vs vs1 σ H Q := by
  obtain ⟨π, F, S, ρ, r, ρ', Re, e, q⟩ := h
  obtain ⟨⟨ds, ρ1⟩, e1, e⟩ := Res.bind_eq e
  obtain ⟨⟨out, ρ2⟩, e2, e⟩ := Res.bind_eq e
  cases e
  refine ⟨π, F, S, ρ, ds, ρ1, Re, e1, fun S0 H0 J s0 R0 ok => ?_⟩
  intro A hA
  have hw : ∀ (τ : L2.St) i, i ∉ vs → (wipe τ vs)[i]? = τ[i]? := fun τ i hi => wipe_out hi
  let W : Nat → Nat → Hp → Prop := LcW K T π F S0 (wipe σ vs) vs A ds fun l ρ acc => lcL2 g ft src1 g1 vs1 vs ft1 fe l ρ acc = .ok (out, ρ2)
  refine ⟨W, ⟨_, rfl, Nat.zero_le _, S0, wipeE ρ1 vs, [], [], Same.refl _, (R0.alloc hA).wipe vs (wipe_length _ _) (hw σ), upd_same, same_none R0.sS hA, same_none R0.sF hA, (R0.apart hA).wipe vs (hw σ), .nil, wun ρ1, e2⟩, ?_⟩
  rintro i m H1 ⟨rfl, hi, S1, ρ3, accV, acc, s1, R1, hA1, nS, nF, ap, hacc, hun, e3⟩
  by_cases hl : i < ds.length
  · refine .inr ?_
    have hd : ds[i]? = some ds[i] := List.getElem?_eq_getElem hl
    obtain ⟨go, yl⟩ := ok.2 i _ hd H1 (s1.trans R1.sS)
    refine ⟨go, fun H' => W (i + 1) (ds.length - (i + 1)) H', fun H' h => ⟨_, by omega, h⟩, fun x H' hy => ?_⟩
    rw [List.drop_eq_getElem_cons hl] at e3
    obtain ⟨ρ4, e4, e5⟩ := Res.bind_eq e3
    obtain ⟨⟨b, ρ5⟩, e6, e7⟩ := Res.bind_eq e5
    have hx := (yl x H' hy).mono s1
    have RL := R1.lend (d := .lst acc) ⟨nS, nF, accV, hA1, hacc⟩ ap hA1
    obtain ⟨S2, s2, R2, dx, _⟩ := came RL hx
    refine ⟨π, _, S2, ρ3, ds[i], ρ4, R2, dx, e4, fun σ2 R3 w => ?_⟩
    have w2 := w vs hvs
    rw [wipe_wipe] at w2
    refine ⟨w2, ?_⟩
    have hσ : ∀ k, k ∉ vs → (wipe σ vs)[k]? = σ2[k]? := fun k hk => by rw [← w2]; exact hw σ2 k hk
    have hl2 : (wipe σ vs).length = σ2.length := by rw [← w2, wipe_length]
    refine ⟨π, _, S2, ρ4, b, ρ5, R3, e6, fun S3 H3 s3 R4 => ?_⟩
    cases b with
    | false =>
      refine ⟨rfl, hl, S3, wipeE ρ5 vs, accV, acc, s1.trans (s2.trans s3), ?_, ?_, ?_, nF, ?_, hacc.mono (s2.trans s3), wun ρ5, e7⟩
      · exact (Rel.unlend nF R4).1.wipe vs hl2 hσ
      · exact (Rel.unlend nF R4).2.1
      · exact (Rel.unlend nF R4).2.2.1
      · exact (Rel.unlend nF R4).2.2.2.wipe vs hσ
    | true =>
      obtain ⟨⟨ds1, ρ6⟩, e8, e9⟩ := Res.bind_eq (show (src1 ρ5).bind _ = _ from e7)
      obtain ⟨⟨out1, ρ7⟩, e10, e11⟩ := Res.bind_eq e9
      refine ⟨π, _, S3, ρ5, ds1, ρ6, R4, e8, fun S4 H4 J1 s4 R5 ok1 => ?_⟩
      obtain ⟨R6, hA4, nS4, ap4⟩ := Rel.unlend nF R5
      have hw1 : ∀ i, i ∉ vs1 → (wipe σ2 vs1)[i]? = σ2[i]? := fun i hi => wipe_out hi
      refine ⟨LcW K T π F S4 (wipe σ2 vs1) vs1 A ds1 fun l ρ acc => lcL g1 vs1 ft1 fe l ρ acc = .ok (out1, ρ7), ⟨_, rfl, Nat.zero_le _, S4, wipeE ρ6 vs1, accV, acc, Same.refl _, R6.wipe vs1 (wipe_length _ _) hw1, hA4, nS4, nF, ap4.wipe vs1 hw1, hacc.mono (s2.trans (s3.trans s4)), wun ρ6, e10⟩, ?_⟩
      intro j k Hk wk
      refine lc_loop (is := is1) (σ := σ2) hvs1 ok1 (End := fun H' => W (i + 1) (ds.length - (i + 1)) H') (fun S5 H5 accV5 s5 R7 hA5 nS5 nF5 ap5 hacc5 hun5 => ?_) j k Hk wk
      have hl3 : (wipe σ vs).length = (wipe σ2 vs1).length := by rw [hl2, wipe_length]
      have hσ3 : ∀ k, k ∉ vs → (wipe σ vs)[k]? = (wipe σ2 vs1)[k]? := fun k hk => (hσ k hk).trans (hw1 k fun z => hk (hv k z)).symm
      exact ⟨rfl, hl, S5, wipeE ρ7 vs, accV5, out1, s1.trans (s2.trans (s3.trans (s4.trans s5))), R7.wipe vs hl3 hσ3, hA5, nS5, nF, ap5.wipe vs hσ3, hacc5, wun ρ7, e11⟩
  · have ei : i = ds.length := by omega
    subst ei
    rw [List.drop_length] at e3
    cases e3
    have R2 : Rel K T π F S1 ρ2 σ H1 := by
      refine ⟨R1.sS, R1.sF, R1.dj, R1.nS, R1.nF, R1.tb, by rw [R1.len, wipe_length], fun k c hc => ?_, fun j k b cj ck hj hk mj mk ej ek => ?_⟩
      · by_cases hk : k ∈ vs
        · rw [hun k hk c hc]; trivial
        · rw [← hw σ k hk]; exact R1.sl k c hc
      · have nin : ∀ {k : Nat} {c : Cell}, ρ2[k]? = some c → c.mut = true → k ∉ vs := fun h m z => by
          rw [hun _ z _ h] at m; cases m
        exact R1.ds j k b cj ck hj hk mj mk (by rw [hw σ j (nin hj mj)]; exact ej) (by rw [hw σ k (nin hk mk)]; exact ek)
    refine .inl ⟨ok.1 H1 (s1.trans R1.sS), q S1 H1 _ (s0.trans s1) R2 ⟨A, rfl, ⟨nS, nF, accV, hA1, hacc⟩, fun k c hc m z => ?_⟩⟩
    have nin : k ∉ vs := fun y => by rw [hun _ y _ hc] at m; cases m
    exact ap k c hc m (by rw [hw σ k nin]; exact z)
end
section
variable {X : Cx} {T : Tab} {elt tg iter tg1 iter1 : Expr} {ifs ifs1 : List Expr} {scope : Scope} {own : List (Str × Nat)} {pos : Pos} {g g1 : GF} {is is1 vs1 : List Nat} {src src1 : IF} {ft ft1 : BF} {fe : EF}
theorem ee_lc2 (hc : X.calm = true) (hN : X.N.Nodup) (hi : PI X tg iter (SI X.K T src)) (ok : BlkOk X.N X.env.scope scope own) (hv : ∀ i ∈ vs1, i ∈ own.map (·.2))
    (hg : ∀ (s : Shared) (H : Hp) (C : Addr) (cl : List (Str × Addr)) (fp : List Addr), PG (X.blk s H scope (compEnvC scope cl C X.env) fp) tg (SG X.K T g is)) (ht : ∀ (s : Shared) (H : Hp) (C : Addr) (cl : List (Str × Addr)) (fp : List Addr), PTs (X.blk s H scope (compEnvC scope cl C X.env) fp) ifs (ST X.K T ft))
    (hi1 : ∀ (s : Shared) (H : Hp) (C : Addr) (cl : List (Str × Addr)) (fp : List Addr), PI (X.blk s H scope (compEnvC scope cl C X.env) fp) tg1 iter1 (SI X.K T src1))
    (hg1 : ∀ (s : Shared) (H : Hp) (C : Addr) (cl : List (Str × Addr)) (fp : List Addr), PG (X.blk s H scope (compEnvC scope cl C X.env) fp) tg1 (SG X.K T g1 is1)) (ht1 : ∀ (s : Shared) (H : Hp) (C : Addr) (cl : List (Str × Addr)) (fp : List Addr), PTs (X.blk s H scope (compEnvC scope cl C X.env) fp) ifs1 (ST X.K T ft1))
    (he : ∀ (s : Shared) (H : Hp) (C : Addr) (cl : List (Str × Addr)) (fp : List Addr), PE (X.blk s H scope (compEnvC scope cl C X.env) fp) elt (SE X.K T fe)) (hvs : ∀ i ∈ is, i ∈ own.map (·.2) := by decide) (hvs1 : ∀ i ∈ is1, i ∈ vs1 := by decide) (hs : ∀ x, foldedSetIterable iter X.env x = pure x := by intro _; rfl) (hs1 : ∀ env x, foldedSetIterable iter1 env x = pure x := by intro _ _; rfl) :
    PE X (.ListComp elt [⟨tg, iter, ifs, 0⟩, ⟨tg1, iter1, ifs1, 0⟩] scope pos) (SE X.K T (eLc2 g src ft src1 g1 vs1 (own.map (·.2)) ft1 fe)) := (pe_lc2 hc hN hi ok hv hg ht hi1 hg1 ht1 he hs hs1).imp fun _ _ _ q => lc2_run hvs hvs1 hv q
theorem ss_setLc2 {i : Nat} {y : Str} {py spos : Pos} (hc : X.calm = true) (hN : X.N.Nodup) (hy : X.N[i]? = some y) (hyl : X.env.scope.names.lookup y = some .local)
    (hsw : swapsWith (.ListComp elt [⟨tg, iter, ifs, 0⟩, ⟨tg1, iter1, ifs1, 0⟩] scope pos) (some (.Name y py)) spos.line X.env = pure true) (hi : PI X tg iter (SI X.K T src)) (ok : BlkOk X.N X.env.scope scope own) (hv : ∀ i ∈ vs1, i ∈ own.map (·.2))
    (hg : ∀ (s : Shared) (H : Hp) (C : Addr) (cl : List (Str × Addr)) (fp : List Addr), PG (X.blk s H scope (compEnvC scope cl C X.env) fp) tg (SG X.K T g is)) (ht : ∀ (s : Shared) (H : Hp) (C : Addr) (cl : List (Str × Addr)) (fp : List Addr), PTs (X.blk s H scope (compEnvC scope cl C X.env) fp) ifs (ST X.K T ft))
    (hi1 : ∀ (s : Shared) (H : Hp) (C : Addr) (cl : List (Str × Addr)) (fp : List Addr), PI (X.blk s H scope (compEnvC scope cl C X.env) fp) tg1 iter1 (SI X.K T src1))
    (hg1 : ∀ (s : Shared) (H : Hp) (C : Addr) (cl : List (Str × Addr)) (fp : List Addr), PG (X.blk s H scope (compEnvC scope cl C X.env) fp) tg1 (SG X.K T g1 is1)) (ht1 : ∀ (s : Shared) (H : Hp) (C : Addr) (cl : List (Str × Addr)) (fp : List Addr), PTs (X.blk s H scope (compEnvC scope cl C X.env) fp) ifs1 (ST X.K T ft1))
    (he : ∀ (s : Shared) (H : Hp) (C : Addr) (cl : List (Str × Addr)) (fp : List Addr), PE (X.blk s H scope (compEnvC scope cl C X.env) fp) elt (SE X.K T fe)) (hvs : ∀ i ∈ is, i ∈ own.map (·.2) := by decide) (hvs1 : ∀ i ∈ is1, i ∈ vs1 := by decide) (hs : ∀ x, foldedSetIterable iter X.env x = pure x := by intro _; rfl) (hs1 : ∀ env x, foldedSetIterable iter1 env x = pure x := by intro _ _; rfl) :
    PS X (.Assign [.Name y py] (.ListComp elt [⟨tg, iter, ifs, 0⟩, ⟨tg1, iter1, ifs1, 0⟩] scope pos) spos) (SS X.K T (sSet i (eLc2 g src ft src1 g1 vs1 (own.map (·.2)) ft1 fe))) := by
  have h := ps_setLc2 hc hN hy hyl hsw hi ok hv hg ht hi1 hg1 ht1 he hs hs1
  refine ss_asg_name (h.imp fun D σ H q => ?_)
  exact lc2_run hvs hvs1 hv q
end
end Dt
end

section
set_option Elab.async false
set_option linter.all false
set_option maxRecDepth 100000
set_option maxHeartbeats 4000000
set_option autoImplicit false

/-! ### ascending, each once -/
namespace Dt
section
variable {α : Type} (f : α → Int)
def insU (x : α) : List α → List α
  | [] => [x]
  | y :: l => if f x < f y then x :: y :: l else if f x = f y then y :: l else y :: insU x l
def ascU : List α → List α
  | [] => []
  | x :: l => insU f x (ascU l)
variable {f}
theorem insU_sub {x z : α} : ∀ {l : List α}, z ∈ insU f x l → z = x ∨ z ∈ l
  | [], h => by
    rw [insU] at h
    exact .inl (List.mem_singleton.mp h)
  | y :: l, h => by
    rw [insU] at h
    split at h
    · exact List.mem_cons.mp h
    · split at h
      · exact .inr h
      · rcases List.mem_cons.mp h with e | h
        · exact .inr (e ▸ List.mem_cons_self ..)
        · rcases insU_sub h with e | h
          · exact .inl e
          · exact .inr (List.mem_cons_of_mem _ h)
theorem insU_has {x : α} : ∀ {l : List α}, ∃ z ∈ insU f x l, f z = f x
  | [] => ⟨x, by rw [insU]; exact List.mem_singleton.mpr rfl, rfl⟩
  | y :: l => by
    rw [insU]
    split
    · exact ⟨x, List.mem_cons_self .., rfl⟩
    · split
      · rename_i h; exact ⟨y, List.mem_cons_self .., h.symm⟩
      · obtain ⟨z, hz, e⟩ := insU_has (x := x) (l := l)
        exact ⟨z, List.mem_cons_of_mem _ hz, e⟩
theorem insU_old {x z : α} : ∀ {l : List α}, z ∈ l → z ∈ insU f x l
  | y :: l, h => by
    rw [insU]
    split
    · exact List.mem_cons_of_mem _ h
    · split
      · exact h
      · rcases List.mem_cons.mp h with e | h
        · exact e ▸ List.mem_cons_self ..
        · exact List.mem_cons_of_mem _ (insU_old h)
theorem insU_asc {x : α} : ∀ {l : List α}, l.Pairwise (fun a b => f a < f b) → (insU f x l).Pairwise fun a b => f a < f b
  | [], _ => by rw [insU]; exact List.pairwise_singleton ..
  | y :: l, h => by
    rw [insU]
    obtain ⟨h1, h2⟩ := List.pairwise_cons.mp h
    split
    · rename_i hl
      refine List.pairwise_cons.mpr ⟨fun z hz => ?_, h⟩
      rcases List.mem_cons.mp hz with e | hz
      · exact e ▸ hl
      · exact Int.lt_trans hl (h1 z hz)
    · split
      · exact h
      · rename_i n1 n2
        refine List.pairwise_cons.mpr ⟨fun z hz => ?_, insU_asc h2⟩
        rcases insU_sub hz with e | hz
        · subst e; omega
        · exact h1 z hz
theorem ascU_asc : ∀ l : List α, (ascU f l).Pairwise fun a b => f a < f b
  | [] => .nil
  | x :: l => insU_asc (ascU_asc l)
theorem ascU_sub {z : α} : ∀ {l : List α}, z ∈ ascU f l → z ∈ l
  | x :: l, h => by
    rcases insU_sub h with e | h
    · exact e ▸ List.mem_cons_self ..
    · exact List.mem_cons_of_mem _ (ascU_sub h)
theorem ascU_has {x : α} : ∀ {l : List α}, x ∈ l → ∃ z ∈ ascU f l, f z = f x
  | y :: l, h => by
    rcases List.mem_cons.mp h with e | h
    · subst e; exact insU_has
    · obtain ⟨z, hz, e⟩ := ascU_has h
      exact ⟨z, insU_old hz, e⟩
theorem insU_head {x : α} : ∀ {l : List α}, (∀ y ∈ l, f x < f y) → insU f x l = x :: l
  | [], _ => rfl
  | y :: l, h => by rw [insU, if_pos (h y (List.mem_cons_self ..))]
/-- what is in order stays -/
theorem ascU_same : ∀ {l : List α}, l.Pairwise (fun a b => f a < f b) → ascU f l = l
  | [], _ => rfl
  | x :: l, h => by
    obtain ⟨h1, h2⟩ := List.pairwise_cons.mp h
    rw [ascU, ascU_same h2]
    exact insU_head h1
/-- one order of one set -/
theorem asc_one : ∀ {l m : List α}, l.Pairwise (fun a b => f a < f b) → m.Pairwise (fun a b => f a < f b) → (∀ x ∈ l, ∃ y ∈ m, f y = f x) → (∀ y ∈ m, ∃ x ∈ l, f x = f y) → (∀ x ∈ l, ∀ y ∈ m, f x = f y → x = y) → l = m
  | [], [], _, _, _, _, _ => rfl
  | [], y :: m, _, _, _, h, _ => by obtain ⟨x, hx, _⟩ := h y (List.mem_cons_self ..); cases hx
  | x :: l, [], _, _, h, _, _ => by obtain ⟨y, hy, _⟩ := h x (List.mem_cons_self ..); cases hy
  | x :: l, y :: m, h1, h2, h3, h4, h5 => by
    obtain ⟨a1, a2⟩ := List.pairwise_cons.mp h1
    obtain ⟨b1, b2⟩ := List.pairwise_cons.mp h2
    have e : f x = f y := by
      obtain ⟨y', hy', e1⟩ := h3 x (List.mem_cons_self ..)
      obtain ⟨x', hx', e2⟩ := h4 y (List.mem_cons_self ..)
      rcases List.mem_cons.mp hy' with z | hy'
      · rw [← e1, z]
      · rcases List.mem_cons.mp hx' with z | hx'
        · rw [← e2, z]
        · have := b1 y' hy'
          have := a1 x' hx'
          omega
    have exy := h5 x (List.mem_cons_self ..) y (List.mem_cons_self ..) e
    subst exy
    congr 1
    refine asc_one a2 b2 (fun z hz => ?_) (fun z hz => ?_) fun z hz u hu => h5 z (List.mem_cons_of_mem _ hz) u (List.mem_cons_of_mem _ hu)
    · obtain ⟨u, hu, e⟩ := h3 z (List.mem_cons_of_mem _ hz)
      rcases List.mem_cons.mp hu with q | hu
      · subst q
        have := a1 z hz
        omega
      · exact ⟨u, hu, e⟩
    · obtain ⟨u, hu, e⟩ := h4 z (List.mem_cons_of_mem _ hz)
      rcases List.mem_cons.mp hu with q | hu
      · subst q
        have := b1 z hz
        omega
      · exact ⟨u, hu, e⟩
end
theorem code_eq {B : Int} : ∀ {k l : List Int}, k.length = l.length → TS.Bd B k → TS.Bd B l → TS.code B k = TS.code B l → k = l
  | [], [], _, _, _, _ => rfl
  | a :: k, b :: l, hl, h1, h2, e => by
    have hl' : k.length = l.length := by simpa using hl
    have hab : a = b := by
      rcases Int.lt_trichotomy a b with h | h | h
      · have := TS.code_lt hl' h1.tail h2.tail h
        omega
      · exact h
      · have := TS.code_lt hl'.symm h2.tail h1.tail h
        omega
    subst hab
    have e' : TS.code B k = TS.code B l := by
      have n1 := TS.code_same (B := B) (d := a) hl'
      have n2 := TS.code_same (B := B) (d := a) hl'.symm
      omega
    rw [code_eq hl' h1.tail h2.tail e']
end Dt
namespace Dt
open PySem PySem.Spec PyProof.Rows L2
abbrev obj0 (w : World) : Obj := { cls := .type "set", dict := none, data := .set #[] 0 (.fresh 0 0 (!w.params.followText "set-order")) }
section
variable {P : Program} {w : World} {A : Around} {E : Value → Shared → Prop} {s : Shared}
/-- what stands at the end of the filling -/
abbrev Filled (P : Program) (w : World) (s : Shared) (ks : List (Addr × List Int)) (s₂ : Shared) : Prop :=
  ∃ h' tk L es ep t, s₂ = { s with heap := h', toks := tk } ∧ SetTR P w h' s.heap.objs.size L es ep t ∧ Got ks ks.length L ∧ ∀ b o, s.heap.get? b = some o → h'.get? b = some o
/-- set(xs), xs a tuple of tuples of ints -/
theorem call_set_tt {l : Addr} {items : Array Value} (ks : List (Addr × List Int)) {Q : Value → Shared → Prop} (hh : A.handled = none) (hl : s.heap.IsTuple l items) (hit : items.toList = ks.map fun p => Value.ref p.1)
    (hk : ∀ p ∈ ks, IsT P w s.heap p.2 p.1) (hfew : ks.length < 64) (hu : A.units + 3 < cLine) (h : ∀ (h' : Heap) (tk : Nat) L es ep t, SetTR P w h' s.heap.objs.size L es ep t → Got ks ks.length L → (∀ b o, s.heap.get? b = some o → h'.get? b = some o) →
      Q (.ref s.heap.objs.size) { s with heap := h', toks := tk }) : wpAny (model P w) A (call (.type "set") [.ref l]) Q E s := by
  have hisz : items.size = ks.length := by have q := congrArg List.length hit; rw [Array.length_toList, List.length_map] at q; exact q
  obtain ⟨c, tl, hmro⟩ := F.called_set.mro; have hmade := F.called_set.made; have hsub := F.called_set.sub
  refine wpAny_call (codeAny_of_tree ?_); show wpAny _ _ (callAny (.type "set") _) _ _ _
  refine wpAny_pure ⟨Code.quiet_builtin _ (by decide +kernel), codeAny_builtin F.entry_type_call ?_⟩; rw [Around.under_plain (weight_type_call_type "set" [.ref l] []) rfl]
  have h1 := F.called_set.notType; have h2 := F.called_set.canCreate; have hct := F.typeCall_set_1 (.ref l); repeat (any_goals (first | assumption | wp_step))
  refine codeAny_mono (code_set_led1 (.ref l) (E := E) (Q₁ := fun obj s₁ => obj = .ref s.heap.objs.size ∧ s₁ = { s with heap := s.heap.push (obj0 w) }) ⟨rfl, rfl⟩) fun r s₁ hr => ?_
  cases r with
  | error e => exact hr
  | ok fl =>
    cases fl with
    | ret obj =>
      obtain ⟨rfl, rfl⟩ := hr
      have hS : (s.heap.push (obj0 w)).get? s.heap.objs.size = some (obj0 w) := Heap.get?_push_size _ rfl
      have hT : Shared.TypeIs { s with heap := s.heap.push (obj0 w) } (.ref s.heap.objs.size) "set" := ⟨_, hS, rfl⟩
      have hli := F.called_set.init.lookup; have hbi := F.called_set.init.bind (.ref s.heap.objs.size); repeat (any_goals (first | assumption | wp_step))
      refine codeAny_mono (codeAny_call_builtin (R := wants (fun r s₂ => r = .none ∧ Filled P w s ks s₂) E) F.called_set.init.plain F.entry_set_init (check_set_init_1 hT ?_)) fun r₂ s₂ hr₂ => ?_
      · obtain ⟨ol, hol, hcl, nl, hdl⟩ := hl; obtain ⟨ocls, odict, odata, oslots⟩ := ol; simp only at hcl hdl; subst hcl; subst hdl
        have hol' : (s.heap.push (obj0 w)).get? l = some { cls := .type "tuple", dict := odict, data := .seq items nl, slots := oslots } := Heap.get?_push_of_some _ hol
        have hsls := F.sub_tuple_set; have hslf := F.sub_tuple_frozenset; have hne : (Value.type "tuple" == Value.type "dict") = false := by decide
        have hl1 : (s.heap.push (obj0 w)).IsTuple l items := ⟨_, hol', rfl, nl, rfl⟩
        unfold Builtin.«set.__init__» noKeywords Builtin.Frozenset.updateFrom; generalize hPI : pyIter = PI; wp_walk; subst hPI
        refine wpAny_pyIter_tuple hl1 ?_; refine wpAny_bind (wpAny_runValue ?_)
        have hlS : l < s.heap.objs.size := Heap.lt_size hol
        have hh3 : A.in1.in1.in1.handled = none := by simp [hh]
        have hz1 : (s.heap.push (obj0 w)).objs.size = s.heap.objs.size + 1 := Heap.size_push ..
        have hneI : l ≠ (s.heap.push (obj0 w)).objs.size := by rw [hz1]; exact Nat.ne_of_lt (Nat.lt_succ_of_lt hlS)
        have hSf : s.heap.objs.size ∉ [(s.heap.push (obj0 w)).objs.size, l] := by
          rw [hz1]; simp only [List.mem_cons, List.mem_singleton, List.not_mem_nil, or_false, not_or]; exact ⟨Nat.ne_of_lt (Nat.lt_succ_self _), Nat.ne_of_gt hlS⟩
        have hval : ∀ (i : Nat) (v : Value), items[i]? = some v → ∃ p, ks[i]? = some p ∧ v = .ref p.1 := fun i v hv => by
          have q : (ks.map fun p => Value.ref p.1)[i]? = some v := by rw [← hit, Array.getElem?_toList]; exact hv
          rw [List.getElem?_map] at q
          obtain ⟨p, hp, e⟩ := Option.map_eq_some_iff.mp q
          exact ⟨p, hp, e.symm⟩
        have none_of : ∀ b, s.heap.objs.size ≤ b → s.heap.get? b = none := fun b hb => by
          rcases q : s.heap.get? b with _ | o
          · rfl
          · exact absurd (Nat.lt_of_lt_of_le (Heap.lt_size q) hb) (Nat.lt_irrefl _)
        refine set_update_tups ((Walks.tuple hh3 _ l hneI items).toS) s.heap.objs.size hSf ks hisz hfew hval s.heap hk (none_of _ (Nat.le_refl _)) (fun b hb => none_of b (by rw [List.mem_singleton.mp hb, Heap.size_push]; exact Nat.le_succ _)) hu
          (items.size - 0) 0 _ (by omega) (Nat.zero_le _) ⟨⟨_, Heap.get?_push_size _ rfl, rfl, rfl⟩, (hl1.push _)⟩ (fun b o e => Heap.get?_push_of_some _ (Heap.get?_push_of_some _ e))
          ⟨[], #[], 0, _, setTR_fresh (Heap.get?_push_of_some _ hS), Got.zero ks⟩ fun s' L es ep t hm hS' g' hkp => ?_
        obtain ⟨h', g2, d', tk', os'⟩ := s'; have eg : g2 = s.gens := hm.gens; have ed : d' = s.drawn := hm.drawn; have eo : os' = s.os := hm.os; subst eg; subst ed; subst eo
        show wpAny _ _ _ _ _ _; refine wpAny_pure ?_; show wpAny _ _ (ret Value.none) _ _ _
        exact wpAny_pure ⟨rfl, h', tk', L, es, ep, t, rfl, hS', hisz ▸ g', hkp⟩
      · cases r₂ with
        | error e => exact hr₂
        | ok fl₂ =>
          cases fl₂ with
          | ret r =>
            obtain ⟨rfl, h', tk, L, es, ep, t, rfl, hS', g', hk'⟩ := hr₂; repeat (any_goals (first | assumption | wp_step))
            exact h _ _ _ _ _ _ hS' g' hk'
          | _ => exact hr₂.elim
    | _ => exact hr.elim
end
/-- set(t), t a tuple of tuples of ints; of ints -/
def rSetTT (K : PySem.W.Frag) (P : Program) (w : World) : List V → Hp → VK → Prop := fun xs H Q => ∃ (l : Addr) (ks : List (Addr × List Int)), xs = [V.ref l] ∧ SqT K H l (ks.map fun p => V.ref p.1) ∧ (∀ p ∈ ks, SqT K H p.1 (p.2.map V.int)) ∧ ks.length < 64 ∧
  ∀ a L, H a = none → (∀ p ∈ L, p ∈ ks) → (∀ p ∈ ks, p.2 ∈ L.map (·.2)) → Q (.ref a) (upd H a (SetTO P w a L))
def rSetTI (K : PySem.W.Frag) (w : World) : List V → Hp → VK → Prop := fun xs H Q => ∃ (l : Addr) (ns : List Int), xs = [V.ref l] ∧ SqT K H l (ns.map V.int) ∧ ns.length < 64 ∧ ∀ a c, H a = none → c ≤ ns.length → Q (.ref a) (upd H a (SetO w a (fun j => decide (j ∈ ns)) c))
section
variable {X : Cx}
theorem cr_setTT (hc : X.calm = true) (hu : X.A.units + 64 < cLine) : CallR X (.type "set") (rSetTT X.K X.prog X.w) := by
  intro pins s σ H xs us Q I r h
  obtain ⟨l, ks, rfl, hl, hk, hf, q⟩ := h
  rw [Vals.ref1 r]
  obtain ⟨its, rv, pl, hz⟩ := I.tuple hl
  have hn := I.hok.fresh (Nat.le_refl s.heap.objs.size)
  refine call_set_tt (P := X.prog) (w := X.w) (items := its.toArray) ks (I.ok.hd hc) pl (by simpa using refs_of_vals rv) (fun p hp => I.isT (hk p hp)) hf (by omega) fun h' tk L es ep t R g k =>
    ⟨.ref s.heap.objs.size, upd H s.heap.objs.size (SetTO X.prog X.w s.heap.objs.size L), I.laid (t' := tk) k (Nat.le_refl _) (setTO_new R.t0), rfl, q _ L hn (fun p hp => List.mem_of_mem_take (g.sub p hp)) fun p hp => g.all p (by rw [List.take_length]; exact hp)⟩
theorem cr_setTI (hc : X.calm = true) : CallR X (.type "set") (rSetTI X.K X.w) := by
  intro pins s σ H xs us Q I r h
  obtain ⟨l, ns, rfl, hl, hf, q⟩ := h
  rw [Vals.ref1 r]
  obtain ⟨its, rv, pl, hz⟩ := I.tuple hl
  have hn := I.hok.fresh (Nat.le_refl s.heap.objs.size)
  exact call_set_tupI (items := its.toArray) ns (I.ok.hd hc) pl (ints_of_vals rv) (by unfold scanBound; omega) fun h' tk c R hcn k =>
    ⟨.ref s.heap.objs.size, upd H s.heap.objs.size (SetO X.w s.heap.objs.size (fun j => decide (j ∈ ns)) c), I.laid (t' := tk) k (Nat.le_refl _) (setO_new R), rfl, q _ c hn hcn⟩
end
/-- ints; tuples of d ints in [0, 64) -/
def D.ints : List D → Option (List Int)
  | [] => some []
  | .int i :: r => (D.ints r).map (i :: ·)
  | _ :: _ => none
def D.tups : List D → Option (List (List Int))
  | [] => some []
  | .tup xs :: r => match D.ints xs, D.tups r with
    | some k, some ks => some (k :: ks)
    | _, _ => none
  | _ :: _ => none
def tupB (d : Nat) (k : List Int) : Bool := k.length == d && k.all fun m => decide (0 ≤ m) && decide (m < 64)
def kD (k : List Int) : D := .tup (k.map .int)
def setT (xs : List D) : Res RV := (Res.of (D.tups xs)).bind fun ks => (Res.need (decide (ks.length < 64) && decide (1 ≤ (ks.headD [0]).length) && ks.all (tupB (ks.headD [0]).length))).bind fun _ => .ok (.own (.lst ((ascU (TS.code 64) ks).map kD)))
def oSSet : D → Res RV
  | .tup xs => match D.ints xs with
    | some ns => (Res.need (decide (ns.length < 64))).bind fun _ => .ok (.own (.lst ((ascU id ns).map .int)))
    | none => setT xs
  | .lst xs => setT xs
  | _ => .bad
section
variable {K : PySem.W.Frag} {T : Tab} {S H : Hp} {w : World} {P : Program}
theorem DRs.ints : ∀ {vs : List V} {ds : List D} {ns : List Int}, DRs K T S vs ds → D.ints ds = some ns → vs = ns.map V.int ∧ ds = ns.map D.int
  | _, _, _, .nil, e => by cases e; exact ⟨rfl, rfl⟩
  | v :: vs, d :: ds, ns, .cons h r, e => by
    cases d <;> first | (cases e; done) | skip
    obtain ⟨ns', e1, rfl⟩ := Option.map_eq_some_iff.mp e
    cases h
    obtain ⟨a, b⟩ := DRs.ints r e1
    exact ⟨by rw [a]; rfl, by rw [b]; rfl⟩
theorem DRs.tups : ∀ {vs : List V} {ds : List D} {ks : List (List Int)}, DRs K T S vs ds → D.tups ds = some ks → ∃ as : List (Addr × List Int), vs = as.map (fun p => V.ref p.1) ∧ as.map (·.2) = ks ∧ ∀ p ∈ as, SqT K S p.1 (p.2.map V.int)
  | _, _, _, .nil, e => by cases e; exact ⟨[], rfl, rfl, fun p hp => by cases hp⟩
  | v :: vs, d :: ds, ks, .cons h r, e => by
    cases d <;> first | (cases e; done) | skip
    rename_i xs
    rw [D.tups] at e
    split at e
    · rename_i k ks' e1 e2
      cases e
      obtain ⟨as, a1, a2, a3⟩ := DRs.tups r e2
      cases h with
      | @tup a ws _ hq hr =>
        obtain ⟨b1, b2⟩ := hr.ints e1
        refine ⟨(a, k) :: as, by rw [a1]; rfl, by rw [← a2]; rfl, fun p hp => ?_⟩
        rcases List.mem_cons.mp hp with z | hp
        · subst z
          show SqT K S a (k.map V.int)
          rw [← b1]; exact hq
        · exact a3 p hp
    · cases e
theorem tupB_of {d : Nat} {k : List Int} (h : tupB d k = true) : k.length = d ∧ TS.Bd 64 k := by
  unfold tupB at h
  rw [Bool.and_eq_true, beq_iff_eq, List.all_eq_true] at h
  refine ⟨h.1, fun m hm => ?_⟩
  have := h.2 m hm
  rw [Bool.and_eq_true] at this
  exact ⟨of_decide_eq_true this.1, of_decide_eq_true this.2⟩
/-- what sorted of the set of such tuples is -/
theorem setT_run {π σ : L2.St} {F : Hp} {ρ : Env} {vs : List V} {xs : List D} {res : RV} {Q : VK} {a0 : Addr} (R : Rel K T π F S ρ σ H) (hd : DRs K T S vs xs) (hg : setT xs = .ok res)
    (q : ∀ S' H' v, Same S S' → Rel K T π F S' ρ σ H' → RVR K T F S' H' ρ σ v res → Q v H') :
    ∃ ks : List (Addr × List Int), vs = ks.map (fun p => V.ref p.1) ∧ (∀ p ∈ ks, SqT K H p.1 (p.2.map V.int)) ∧ ks.length < 64 ∧
      ∀ a L, H a = none → (∀ p ∈ L, p ∈ ks) → (∀ p ∈ ks, p.2 ∈ L.map (·.2)) → rSortedT K P w [.ref a] (upd H a (SetTO P w a L)) Q := by
  obtain ⟨ks, e1, hg⟩ := Res.bind_eq hg
  obtain ⟨_, e2, hg⟩ := Res.bind_eq hg
  cases hg
  have e2 := Res.need_eq e2
  rw [Bool.and_eq_true, Bool.and_eq_true] at e2
  obtain ⟨as, rfl, a2, a3⟩ := hd.tups (Res.of_eq e1)
  have hB : ∀ k ∈ ks, k.length = (ks.headD [0]).length ∧ TS.Bd 64 k := fun k hk => tupB_of (List.all_eq_true.mp e2.2 k hk)
  have lk : as.length = ks.length := by rw [← a2, List.length_map]
  refine ⟨as, rfl, fun p hp => sqT_same R.sS (a3 p hp), by rw [lk]; exact of_decide_eq_true e2.1.1, fun a L ha h1 h2 => ?_⟩
  have mem2 : ∀ p ∈ L, p.2 ∈ ks := fun p hp => a2 ▸ List.mem_map.mpr ⟨p, h1 p hp, rfl⟩
  have R1 := R.alloc (o := SetTO P w a L) ha
  refine ⟨a, L, (ks.headD [0]).length, 64, rfl, upd_same, fun p hp => sqT_same (R1.sS) (a3 p (h1 p hp)), of_decide_eq_true e2.1.2, fun p hp => hB _ (mem2 p hp), fun L' p pm nd hl pw hp => ?_⟩
  have mem3 : ∀ p ∈ L', p ∈ as := fun p hp => h1 p (pm.mem_iff.mp hp)
  have keys : L'.map (·.2) = ascU (TS.code 64) ks := by
    refine asc_one (f := TS.code 64) ?_ (ascU_asc ks) (fun k hk => ?_) (fun k hk => ?_) fun x hx y hy e => ?_
    · rw [List.pairwise_map]
      have nd := List.pairwise_map.mp (show (L'.map (·.2)).Pairwise (· ≠ ·) from nd)
      refine List.Pairwise.imp_of_mem (fun {p r} hp hr h => ?_) (pw.and nd)
      have hne := h.2
      have := h.1
      rcases Int.lt_or_eq_of_le this with z | z
      · exact z
      · exact absurd (code_eq ((hB _ (mem2 p (pm.mem_iff.mp hp))).1.trans (hB _ (mem2 r (pm.mem_iff.mp hr))).1.symm) (hB _ (mem2 p (pm.mem_iff.mp hp))).2 (hB _ (mem2 r (pm.mem_iff.mp hr))).2 z) hne
    · obtain ⟨p, hp, rfl⟩ := List.mem_map.mp hk
      exact ascU_has (mem2 p (pm.mem_iff.mp hp))
    · have := ascU_sub hk
      rw [← a2] at this
      obtain ⟨p, hp, rfl⟩ := List.mem_map.mp this
      obtain ⟨q', hq', e⟩ := List.mem_map.mp (h2 p hp)
      exact ⟨p.2, List.mem_map.mpr ⟨q', pm.mem_iff.mpr hq', e⟩, rfl⟩
    · obtain ⟨p, hp, rfl⟩ := List.mem_map.mp hx
      have hx' := hB _ (mem2 p (pm.mem_iff.mp hp))
      have hy' := hB _ (ascU_sub hy)
      exact code_eq (hx'.1.trans hy'.1.symm) hx'.2 hy'.2 e
  have dr : DRs K T S (L'.map fun q => V.ref q.1) ((ascU (TS.code 64) ks).map kD) := by
    rw [← keys, List.map_map]
    have := drs_of (K := K) (T := T) (S := S) (bs := L'.map fun q => (V.ref q.1, kD q.2)) fun b hb => by
      obtain ⟨p, hp, rfl⟩ := List.mem_map.mp hb
      exact .tup (a3 p (mem3 p hp)) (drs_ints _)
    rw [List.map_map, List.map_map] at this
    exact this
  obtain ⟨R2, rv⟩ := new_lst R1 dr hp
  exact q _ _ _ (Same.refl S) R2 rv
/-- what sorted of the set of ints is -/
theorem setI_run {π σ : L2.St} {F : Hp} {ρ : Env} {ns : List Int} {Q : VK} {a : Addr} {c : Nat} (R : Rel K T π F S ρ σ H) (ha : H a = none) (hc : c ≤ ns.length) (hl : ns.length < 64)
    (q : ∀ S' H' v, Same S S' → Rel K T π F S' ρ σ H' → RVR K T F S' H' ρ σ v (.own (.lst ((ascU id ns).map .int))) → Q v H') : rSortedSet w [.ref a] (upd H a (SetO w a (fun j => decide (j ∈ ns)) c)) Q := by
  have R1 := R.alloc (o := SetO w a (fun j => decide (j ∈ ns)) c) ha
  refine ⟨a, _, c, rfl, upd_same, by omega, fun ms p h1 h2 h3 hp => ?_⟩
  have e : ms = ascU id ns := asc_one (f := id) h1 (ascU_asc ns) (fun k hk => ascU_has (of_decide_eq_true ((h2 k).mp hk))) (fun k hk => ⟨k, (h2 k).mpr (decide_eq_true (ascU_sub hk)), rfl⟩) fun _ _ _ _ e => e
  subst e
  obtain ⟨R2, rv⟩ := new_lst R1 (drs_ints (ascU id ns)) hp
  exact q _ _ _ (Same.refl S) R2 rv
end
section
variable {X : Cx} {T : Tab} {e : Expr} {fe : EF} {p p2 pos pos2 : Pos}
theorem ee_sset (hc : X.calm = true) (hu : X.A.units + 64 < cLine) (hg : Gl X "sorted") (hm : X.mg "sorted" = none) (hg2 : Gl X "set") (hm2 : X.mg "set" = none) (he : PE X e (SE X.K T fe))
    (h1 : starEach [.Call (.Name "set" p2) [e] [] pos2] X.env = (false, eval (.Call (.Name "set" p2) [e] [] pos2) X.env) :: starEach [] X.env := by rfl) (h2 : starEach [e] X.env = (false, eval e X.env) :: starEach [] X.env := by rfl) :
    PE X (.Call (.Name "sorted" p) [.Call (.Name "set" p2) [e] [] pos2] [] pos) (SE X.K T (e1 oSSet fe)) :=
  (pe_callB ((cr_sortedT hc).or (cr_sortedSet hc)) hg hm (by decide +kernel) (pa_cons (pe_callTy (((cr_setTT hc hu).or (cr_setOfT hc hu)).or (cr_setTI hc)) hg2 hm2 PyProof.Rows.boot_set (pa_cons he pa_nil h2) (he := h2)) pa_nil h1) (he := h1)).imp fun σ H Q h =>
    SE.e1 (r := fun x H1 Q => ((rSetTT X.K X.prog X.w [x] H1 fun y H2 => rSortedT X.K X.prog X.w [y] H2 Q ∨ rSortedSet X.w [y] H2 Q) ∨ (rSetOfT X.K X.prog X.w [x] H1 fun y H2 => rSortedT X.K X.prog X.w [y] H2 Q ∨ rSortedSet X.w [y] H2 Q)) ∨
      rSetTI X.K X.w [x] H1 fun y H2 => rSortedT X.K X.prog X.w [y] H2 Q ∨ rSortedSet X.w [y] H2 Q) (by
  intro π F S ρ σ H x d res Q R hx hg q
  cases d <;> first | (cases hg; done) | skip
  · rename_i xs
    obtain ⟨l, vs, rfl, h1, h2⟩ := hx.tup
    have hg : (match D.ints xs with
      | some ns => (Res.need (decide (ns.length < 64))).bind fun _ => Res.ok (RV.own (.lst ((ascU id ns).map .int)))
      | none => setT xs) = .ok res := hg
    split at hg
    · rename_i ns e1
      obtain ⟨_, e2, hg⟩ := Res.bind_eq hg
      cases hg
      have hl := of_decide_eq_true (Res.need_eq e2)
      obtain ⟨a1, a2⟩ := h2.ints e1
      exact .inr ⟨l, ns, rfl, a1 ▸ sqT_same R.sS h1, hl, fun a c ha hcn => .inr (setI_run R ha hcn hl q)⟩
    · obtain ⟨ks, k1, k2, k3, k4⟩ := setT_run (P := X.prog) (w := X.w) (a0 := l) R h2 hg q
      exact .inl (.inl ⟨l, ks, rfl, k1 ▸ sqT_same R.sS h1, k2, k3, fun a L ha b1 b2 => .inl (k4 a L ha b1 b2)⟩)
  · rename_i xs
    obtain ⟨l, vs, rfl, h1, h2⟩ := hx.lst R.sS
    obtain ⟨ks, k1, k2, k3, k4⟩ := setT_run (P := X.prog) (w := X.w) (a0 := l) R h2 hg q
    exact .inl (.inr ⟨l, ks, rfl, .of (k1 ▸ h1), k2, k3, fun a L ha b1 b2 => .inl (k4 a L ha b1 b2)⟩)) h
end
end Dt
end

section
set_option Elab.async false
set_option linter.all false
set_option maxRecDepth 100000
set_option maxHeartbeats 4000000
set_option autoImplicit false
namespace Dt
open PySem PySem.Spec PyProof.Rows L2

/-! ### sorted(v, key=lambda x: (len(x), x)), v a list of tuples of data -/
section
variable {K : PySem.W.Frag} {T : Tab} {π σ : L2.St} {F S H H' : Hp} {ρ : Env}
/-- code objects have been made -/
theorem Rel.extN (R : Rel K T π F S ρ σ H) (e : LamX.ExtN H H') (t : LamX.Tabs T.tb H') : Rel K T π F S ρ σ H' :=
  R.step (Same.refl S) (fun b o q => e b o (R.sS _ _ q) fun ps z => R.nS b ps (z ▸ q)) (fun b o q => e b o (R.sF _ _ q) fun ps z => R.nF b ps (z ▸ q)) R.dj R.nS t fun i c b hc m q => by
    obtain ⟨h1, _, o, h2⟩ := R.ownAt hc m q
    exact ⟨(e b o h2 fun ps z => R.notab hc m q ps (z ▸ h2)).trans h2.symm, h1⟩
end
/-- the key of a tuple with n items -/
def keyL (n : Nat) (p : PyData) : PyData := .tuple [.int n, p]
/-- the body (len(x), x) -/
def bodyL (x : Str) (q1 q2 q3 q4 q5 : Pos) (kk : Nat) : Expr := .Tuple [.Call (.Name "len" q1) [.Name x q2] [] q3, .Name x q4] kk q5
structure ScpL (scope : Scope) (x : Str) : Prop where
  kind : scope.kind = .function
  co : scope.isCoroutine = false
  gen : scope.isGenerator = false
  cell : ∀ y ∈ scope.names, y.2 ≠ .cell
  free : ∀ y ∈ scope.names, y.2 ≠ .free
  loc : scope.names.lookup x = some .local
  len : scope.names.lookup ("len" : Str) = some .globalImplicit
  dbg : (x == ("__debug__" : Str)) = false
theorem clo_nil {cells : List (Str × Addr)} : ∀ {ns : List (Str × NameKind)} {acc : List (Str × Addr)}, (∀ y ∈ ns, y.2 ≠ .free) → cloFrom cells ns acc = acc
  | [], _, _ => rfl
  | (n, k) :: ns, acc, h => by
    have hk : k ≠ .free := h (n, k) (List.mem_cons_self ..)
    rw [cloFrom, if_neg (by simpa using hk)]
    exact clo_nil fun z hz => h z (List.mem_cons_of_mem _ hz)
theorem key_walk {prog : Program} {w : World} {A : Around} {E : Value → Shared → Prop} {s : Shared} {env : PySem.Env} {x : Str} {m mg mb : Str → Option Value} {a : Addr} {items : Array Value} {p : PyData} {q1 q2 q3 q4 q5 : Pos} {kk : Nat} (S : ScpL env.scope x) (hn : s.heap.Ns env.locals m) (hx : m x = some (.ref a))
    (hg : s.heap.Ns env.globals mg) (hm : mg "len" = none) (hb : s.heap.Ns env.builtins mb) (hv : mb "len" = some (.builtin "len")) (ht : s.heap.IsTuple a items) (hz : items.size ≤ sizeLine) (hr : Reads s.heap (.ref a) p []) :
    wpAny (model prog w) A (eval (bodyL x q1 q2 q3 q4 q5 kk) env) (PySem.W.KeyPure (keyL items.size p) s) E s := by
  have nm : ∀ {s : Shared} {E : Value → Shared → Prop} {Q : Value → Shared → Prop} {pos : Pos}, s.heap.Ns env.locals m → Q (.ref a) s → wpAny (model prog w) A (eval (.Name x pos) env) Q E s := fun hn h => wpAny_Name (wpAny_loadName_local S.kind S.loc hn hx h) S.dbg
  refine wpAny_Tuple_spliced ?_
  show wpAny _ _ (spliced ((false, eval (.Call (.Name "len" q1) [.Name x q2] [] q3) env) :: (false, eval (.Name x q4) env) :: [])) _ _ s
  refine Calls.spliced_cons ?_
  refine wpAny_Call_Name_kw (Calls.Name_function_global S.kind S.len (Calls.loadGlobal_builtin hg hm hb hv ?_))
  refine PyProof.Rows.callWith_builtin1 ?_ (by rfl) (by rfl)
  show wpAny _ _ (spliced ((false, eval (.Name x q2) env) :: [])) _ _ s
  refine Calls.spliced_cons (nm hn (Calls.spliced_nil ?_))
  have hl := line63
  refine len_tuple ht (by omega) ?_
  refine Calls.spliced_cons (nm hn (Calls.spliced_nil ⟨by show 2 ≤ sizeLine; decide, ?_⟩))
  refine ⟨_, _, rfl, fun b o e => Heap.get?_push_of_some _ e, ?_⟩
  have hr2 := PyProof.Rows.Reads.keeps (h' := s.heap.push { cls := .type "tuple", data := .seq [Value.int items.size (s.toks + 1), Value.ref a].toArray }) (fun b o e => Heap.get?_push_of_some _ e) hr
  exact Reads.tuple (as := [] ++ ([] ++ [])) (Heap.get?_push_size _ rfl) rfl rfl (.cons (.int _ _) (.cons hr2 .nil))
/-- no list, no dict within -/
inductive Flat : PyData → Prop
  | non : Flat .none
  | bl (b : Bool) : Flat (.bool b)
  | int (i : Int) : Flat (.int i)
  | str (x : Str) : Flat (.str x)
  | tup {ps : List PyData} : (∀ p ∈ ps, Flat p) → Flat (.tuple ps)
mutual
theorem flat_reads {h : Heap} : ∀ {v : Value} {p : PyData} {as : List Addr}, Reads h v p as → Flat p → as = []
  | _, _, _, .none, _ => rfl
  | _, _, _, .bool _, _ => rfl
  | _, _, _, .int _ _, _ => rfl
  | _, _, _, .str _ _, _ => rfl
  | _, _, _, .list _ _ _ _, f => nomatch f
  | _, _, _, .tuple _ _ _ r, .tup f => flat_all r f
  | _, _, _, .dict _ _ _ _ _, f => nomatch f
theorem flat_all {h : Heap} : ∀ {vs : List Value} {ps : List PyData} {as : List Addr}, ReadsAll h vs ps as → (∀ p ∈ ps, Flat p) → as = []
  | _, _, _, .nil, _ => rfl
  | _, _, _, .cons r q, f => by rw [flat_reads r (f _ (List.mem_cons_self ..)), flat_all q fun p hp => f p (List.mem_cons_of_mem _ hp)]; rfl
end
/-- an item with its key -/
def KeyIt (K : PySem.W.Frag) (H : Hp) (b : V × PyData) : Prop := ∃ a ws p, b.1 = .ref a ∧ SqT K H a ws ∧ Dp K H b.1 p ∧ Flat p ∧ b.2 = keyL ws.length p
def rSortK (K : PySem.W.Frag) : List V → Hp → VK → Prop := fun vs H Q => ∃ (a : Addr) (bs : List (V × PyData)), vs = [V.ref a] ∧ SqL K H a (bs.map (·.1)) ∧ (∀ b ∈ bs, KeyIt K H b) ∧ alikeB (bs.map (·.2)) = true ∧ sortableB (bs.map (·.2)) = true ∧ (∀ b ∈ bs, b.2.depth ≤ 60) ∧
  ∀ p, H p = none → Q (.ref p) (upd H p (.lst ((bs.mergeSort (PySem.W.dataLe false (·.2))).map (·.1))))
section
variable {X : Cx} {pins : List (Addr × Obj)} {σ : L2.St} {H : Hp} {s : Shared} {c P f c' : Addr} {params : Arguments} {scope : Scope} {x : Str} {p pos q1 q2 q3 q4 q5 lpos kpos : Pos} {kk k : Nat} {pm ctv : Value} {qual : Str}
/-- the lambda called on an item -/
theorem key_turn (I : Inv X pins σ H s) (S : ScpL scope x) (hr : Room (k + 2) X.A) (hm : X.mg "len" = none) (hf : s.heap.get? f = some (PySem.W.kla_obj "<lambda>" qual params (bodyL x q1 q2 q3 q4 q5 kk) scope [] pm c' ctv)) (hco : H c' = some (LamX.CodeO c' qual))
    (hbind : ∀ v, bindArgs (PySem.W.kla_fn "<lambda>" qual params (bodyL x q1 q2 q3 q4 q5 kk) scope [] pm (.ref c') ctv) ⟨[v], []⟩ = pure [(x, v)]) {b : V × PyData} (hb : KeyIt X.K H b) {v : Value} (rv : RelV b.1 v) (h : Heap) (tk : Nat) (kp : ∀ b o, s.heap.get? b = some o → h.get? b = some o) :
    wpAny (model X.prog X.w) X.A.in1.in1 (call (.ref f) [v]) (PySem.W.KeyPure b.2 { s with heap := h, toks := tk }) (fun _ _ => False) { s with heap := h, toks := tk } := by
  obtain ⟨bv, bk⟩ := b
  obtain ⟨a, ws, pd, e1, hq, hd, hfl, e2⟩ := hb
  have e1 : bv = V.ref a := e1
  have e2 : bk = keyL ws.length pd := e2
  subst e1 e2
  cases (show v = Value.ref a from rv)
  obtain ⟨⟨oc, vs, t, hoc, hdc, hvc⟩, _, _⟩ := I.hok c' _ hco
  obtain ⟨its, rits, pt, hz⟩ := I.tuple hq
  obtain ⟨as, hrd⟩ := Dp.reads I pd _ _ hd rv
  have eas := flat_reads hrd hfl
  subst eas
  have hr2 : Room k X.A.in1.in1 := hr.in1.in1
  refine wpAny_call (PySem.W.kla_callFunE hr2.depth (kp _ _ hf) rfl S.co S.gen rfl ⟨c', oc, vs, t, rfl, kp _ _ hoc, hdc, hvc⟩ ?_)
  rw [hbind]
  refine wpAny_pure (wpAny_newFunctionEnv S.cell (fun y hy => ?_) (fun h₁ hns hsb => ⟨(I.nolimit.keeps kp).fresh _ hsb, PySem.W.kla_codeExpr ?_⟩) S.kind)
  · cases hy with
    | head => exact S.loc
    | tail _ z => cases z
  · have kp1 : ∀ b o, s.heap.get? b = some o → h₁.get? b = some o := fun b o e => hsb.extBut b o (Nat.ne_of_lt (Heap.lt_size (kp b o e))) (Heap.get?_push_of_some _ (kp b o e))
    have kp2 : ∀ b o, h.get? b = some o → h₁.get? b = some o := fun b o e => hsb.extBut b o (Nat.ne_of_lt (Heap.lt_size e)) (Heap.get?_push_of_some _ e)
    obtain ⟨mb, b1, b2⟩ := I.mod.blt
    have hlen : its.toArray.size = ws.length := by rw [List.size_toArray]; exact rits.length.symm
    have hw := key_walk (prog := X.prog) (w := X.w) (A := X.A.in1.in1.deeper (newEnv scope h.objs.size mainGlobals [] (qual ++ ".<locals>.") (some f) (.ref c') none builtinsNs)) (E := fun _ _ => False) (s := { s with heap := h₁, toks := tk + 1 })
      (env := newEnv scope h.objs.size mainGlobals [] (qual ++ ".<locals>.") (some f) (.ref c') none builtinsNs) (q1 := q1) (q2 := q2) (q3 := q3) (q4 := q4) (q5 := q5) (kk := kk) (a := a) (p := pd) S hns (by simp [List.lookup]) ((I.mod.glob.keeps I.bk).keeps kp1) hm ((b1.keeps I.bk).keeps kp1) ((b2 _ (by decide)).trans PySem.boot_len)
      (items := its.toArray) (by obtain ⟨o, ho, hc, n, hd⟩ := pt; exact ⟨o, kp1 _ _ ho, hc, n, hd⟩) (by rw [hlen]; exact hz) (PyProof.Rows.Reads.keeps kp1 hrd)
    refine wpAny_mono hw (fun u s' hq => ?_) fun _ _ z => z.elim
    obtain ⟨h', tk', es, kq, rd⟩ := hq
    rw [hlen] at rd
    exact ⟨h', tk', es, fun b o e => kq b o (kp2 b o e), rd⟩
/-- the whole expression -/
theorem pe_sortKL {e : Expr} {te : TE} {L : List (Addr × Str)} (hr : Room (k + 2) X.A) (hg : Gl X "sorted") (hm : X.mg "sorted" = none) (hml : X.mg "len" = none) (TB : LamX.TabB X.base X.mg c P) (hcode : X.env.code = .ref c) (hmT : (P, X.env.qual ++ "<lambda>") ∈ L) (hu : ∀ p ∈ L, p.1 = P → p.2 = X.env.qual ++ "<lambda>") (S : ScpL scope x) (hdef : defaultsOf params X.env = ([], []))
    (hbind : ∀ (q : Str) (pm cv ctv v : Value), bindArgs (PySem.W.kla_fn "<lambda>" q params (bodyL x q1 q2 q3 q4 q5 kk) scope [] pm cv ctv) ⟨[v], []⟩ = pure [(x, v)]) (ha : PE X e te) (he : backTo pos (starEach [e] X.env) = (false, eval e X.env) :: backTo pos (starEach [] X.env) := by rfl) (hpl : (backTo pos (starEach [e] X.env)).any (·.1) = false := by rfl)
    (hall : (backToKw pos (keywordEach [⟨some "key", .Lambda params (bodyL x q1 q2 q3 q4 q5 kk) scope lpos, kpos⟩] X.env)).all (·.1.isSome) = true := by rfl) (hnone : (backToKw pos (keywordEach [⟨some "key", .Lambda params (bodyL x q1 q2 q3 q4 q5 kk) scope lpos, kpos⟩] X.env)).any (·.1.isNone) = false := by rfl)
    (hks : (backToKw pos (keywordEach [⟨some "key", .Lambda params (bodyL x q1 q2 q3 q4 q5 kk) scope lpos, kpos⟩] X.env)).filterMap (·.1) = [Str.ofString "key"] := by rfl)
    (hev : (backToKw pos (keywordEach [⟨some "key", .Lambda params (bodyL x q1 q2 q3 q4 q5 kk) scope lpos, kpos⟩] X.env)).map (·.2) = [do let v ← eval (.Lambda params (bodyL x q1 q2 q3 q4 q5 kk) scope lpos) X.env; standAt pos; pure v] := by rfl) :
    PE X (.Call (.Name "sorted" p) [e] [⟨some "key", .Lambda params (bodyL x q1 q2 q3 q4 q5 kk) scope lpos, kpos⟩] pos) (fun σ H Q => te σ H fun v H1 => LamX.Tabs L H1 ∧ ∀ H2, LamX.ExtN H1 H2 → LamX.Tabs L H2 → rSortK X.K [v] H2 Q) := by
  refine ⟨fun pins s σ H Q I h => ?_⟩
  refine wpAny_Call_Name_kw (ld_blt I hg hm (show bootBuiltins "sorted" = some (.builtin "sorted") by decide +kernel) ?_)
  refine PyProof.Rows.callWith_kw ?_ he hpl hall hnone
  rw [he, hks, hev]
  refine Calls.spliced_cons (thn (ha.run pins s σ H _ I h) fun u s1 ⟨v, H1, I1, r1, hT, qk⟩ => ?_)
  refine Calls.spliced_nil ?_
  refine wpAny_evalAll_cons (wpAny_bind (LamX.lam_make2 I1 TB hcode hmT hu hT hdef (fun y hy z => absurd z (S.free y hy)) fun f c' pm ctv H2 s2 I2 eN T2 hf hfn hfr hco => wpAny_bind (wpAny_standAt (wpAny_pure (wpAny_evalAll_nil ?_)))))
  rw [clo_nil S.free] at hf
  obtain ⟨a, bs, ea, hl, hk, hal, hso, hdp, q⟩ := qk H2 eN T2
  cases ea
  cases (show u = Value.ref a from r1)
  obtain ⟨its, rv, pl, hz⟩ := I2.list hl
  rw [List.length_map] at hz
  have hun := hr.units
  refine PySem.W.sorted_key_data (β := V × PyData) (R := fun u b => RelV b.1 u) (vs := its) (bs := bs) (f := .ref f) (b := false) (kw := [(Str.ofString "key", .ref f)]) (fun b => b.2) pl.isList (eachIs_vals (R := RelV) rv) (alikeB_of hal) (sortableB_of hso) hz (fun b hb => by have := hdp b hb; omega) (PyProof.Rows.ksk_s1 _ _) (fun _ => PyProof.Rows.ksk_l1 _ _) (fun _ => PyProof.Rows.ksk_t1 _ _)
    (fun v b rb hb h tk kp => key_turn I2 S hr hml hf hco (fun v => hbind _ _ _ _ v) (hk b hb) rb h tk kp) fun out cc h' tk kp hn hD ho eo => ?_
  exact ⟨.ref _, _, I2.laid (t' := tk) (o := .lst ((bs.mergeSort (PySem.W.dataLe false (·.2))).map (·.1))) kp (Nat.le_succ _) ⟨by rw [List.length_map, List.length_mergeSort]; exact hz, out, cc, vals_eachIs eo, hD⟩, rfl, q _ (I2.hok.fresh (Nat.le_succ _))⟩
end
/-! ### by data -/
mutual
def D.pyF : D → Option PyData
  | .non => some .none
  | .bl b => some (.bool b)
  | .int i => some (.int i)
  | .str x => some (.str x)
  | .tup xs => (D.pyFs xs).map .tuple
  | _ => none
def D.pyFs : List D → Option (List PyData)
  | [] => some []
  | d :: ds => match D.pyF d, D.pyFs ds with
    | some p, some ps => some (p :: ps)
    | _, _ => none
end
mutual
theorem pyF_py : ∀ {d : D} {p : PyData}, d.pyF = some p → d.py = some p ∧ Flat p
  | .non, _, e => by cases e; exact ⟨rfl, .non⟩
  | .bl _, _, e => by cases e; exact ⟨rfl, .bl _⟩
  | .int _, _, e => by cases e; exact ⟨rfl, .int _⟩
  | .str _, _, e => by cases e; exact ⟨rfl, .str _⟩
  | .tup xs, _, e => by
    rw [D.pyF] at e
    obtain ⟨ps, e1, rfl⟩ := Option.map_eq_some_iff.mp e
    obtain ⟨h1, h2⟩ := pyFs_pys e1
    exact ⟨by rw [D.py, h1]; rfl, .tup h2⟩
  | .lst _, _, e => by cases e
  | .scr _, _, e => by cases e
  | .dic _ _ _, _, e => by cases e
  | .obj _ _, _, e => by cases e
  | .fn _ _, _, e => by cases e
theorem pyFs_pys : ∀ {ds : List D} {ps : List PyData}, D.pyFs ds = some ps → D.pys ds = some ps ∧ ∀ p ∈ ps, Flat p
  | [], _, e => by cases e; exact ⟨rfl, fun p hp => by cases hp⟩
  | d :: ds, ps, e => by
    rw [D.pyFs] at e
    split at e
    · rename_i p ps' e1 e2
      cases e
      obtain ⟨h1, h2⟩ := pyF_py e1
      obtain ⟨h3, h4⟩ := pyFs_pys e2
      refine ⟨by rw [D.pys, h1, h3], fun q hq => ?_⟩
      rcases List.mem_cons.mp hq with z | hq
      · exact z ▸ h2
      · exact h4 q hq
    · cases e
end
def D.keyT : D → Option PyData
  | .tup ys => (D.pyF (.tup ys)).map (keyL ys.length)
  | _ => none
def D.keyTs : List D → Option (List PyData)
  | [] => some []
  | d :: ds => match D.keyT d, D.keyTs ds with
    | some p, some ps => some (p :: ps)
    | _, _ => none
def oSortKL : D → Res RV
  | .lst xs => (Res.of (D.keyTs xs)).bind fun ks => (Res.need (alikeB ks && sortableB ks && ks.all fun p => decide (p.depth ≤ 60))).bind fun _ => .ok (.own (.lst (sortD (xs.zip ks))))
  | _ => .bad
theorem keyTs_len : ∀ {xs : List D} {ps : List PyData}, D.keyTs xs = some ps → ps.length = xs.length
  | [], _, e => by cases e; rfl
  | x :: xs, ps, e => by
    rw [D.keyTs] at e
    split at e
    · rename_i p ps' e1 e2
      cases e
      rw [List.length_cons, List.length_cons, keyTs_len e2]
    · cases e
theorem keyTs_zip : ∀ {xs : List D} {ps : List PyData}, D.keyTs xs = some ps → ∀ q ∈ xs.zip ps, q.1.keyT = some q.2
  | [], _, e, q, hq => by cases e; simp at hq
  | x :: xs, ps, e, q, hq => by
    rw [D.keyTs] at e
    split at e
    · rename_i p ps' e1 e2
      cases e
      rw [List.zip_cons_cons] at hq
      rcases List.mem_cons.mp hq with rfl | hq
      · exact e1
      · exact keyTs_zip e2 q hq
    · cases e
section
variable {K : PySem.W.Frag} {T : Tab} {S H : Hp}
theorem keyIt_of {v : V} {d : D} {k : PyData} (sS : Same S H) (h : DR K T S v d) (e : d.keyT = some k) : KeyIt K H (v, k) := by
  cases d <;> first | (cases e; done) | skip
  rename_i ys
  obtain ⟨p, e1, rfl⟩ := Option.map_eq_some_iff.mp (show (D.pyF (.tup ys)).map (keyL ys.length) = some k from e)
  obtain ⟨h1, h2⟩ := pyF_py e1
  cases h with
  | @tup a vs _ hq hr => exact ⟨a, vs, p, rfl, sqT_same sS hq, (DR.mono sS (.tup hq hr)).dp h1, h2, by rw [hr.length]⟩
theorem op_rSortK : Op1 K T (fun x H Q => rSortK K [x] H Q) oSortKL := by
  intro π F S ρ σ H x d res Q R hx hg q
  cases d <;> first | (cases hg; done) | skip
  rename_i xs
  obtain ⟨ps, e2, hg⟩ := Res.bind_eq hg
  obtain ⟨_, e3, hg⟩ := Res.bind_eq hg
  cases hg
  have e2 := Res.of_eq e2
  have hb := Res.need_eq e3
  rw [Bool.and_eq_true, Bool.and_eq_true] at hb
  obtain ⟨a, vs, rfl, h1, h2⟩ := hx.lst R.sS
  have l1 := h2.length
  have l2 := keyTs_len e2
  let tr : List (V × (D × PyData)) := vs.zip (xs.zip ps)
  have lz : (xs.zip ps).length = xs.length := by rw [List.length_zip]; omega
  have m1 : tr.map (·.1) = vs := map_zip1 (by omega)
  have m2 : tr.map (·.2) = xs.zip ps := map_zip2 (by omega)
  have m3 : (tr.map fun t => t.2.2) = ps := by
    rw [show (tr.map fun t => t.2.2) = (tr.map (·.2)).map (·.2) by rw [List.map_map]; rfl, m2, map_zip2 (by omega)]
  have hall : ∀ t ∈ tr, DR K T S t.1 t.2.1 ∧ t.2.1.keyT = some t.2.2 := fun t ht => by
    have hz := List.of_mem_zip ht
    refine ⟨?_, keyTs_zip e2 _ hz.2⟩
    obtain ⟨i, hi⟩ := List.mem_iff_getElem?.mp ht
    rw [List.getElem?_zip_eq_some] at hi
    have h3 := hi.2
    rw [List.getElem?_zip_eq_some] at h3
    obtain ⟨d', hd1, hd2⟩ := h2.get' hi.1
    rw [h3.1] at hd1; cases hd1
    exact hd2
  refine ⟨a, tr.map fun t => (t.1, t.2.2), rfl, ?_, ?_, ?_, ?_, ?_, fun p hp => ?_⟩
  · rw [List.map_map]
    show SqL K H a (tr.map (·.1))
    rw [m1]; exact .of h1
  · intro b hb
    obtain ⟨t, ht, rfl⟩ := List.mem_map.mp hb
    obtain ⟨h3, h4⟩ := hall t ht
    exact keyIt_of R.sS h3 h4
  · rw [List.map_map]
    show alikeB (tr.map fun t => t.2.2) = true
    rw [m3]; exact hb.1.1
  · rw [List.map_map]
    show sortableB (tr.map fun t => t.2.2) = true
    rw [m3]; exact hb.1.2
  · intro b hb'
    obtain ⟨t, ht, rfl⟩ := List.mem_map.mp hb'
    have : t.2.2 ∈ ps := (List.of_mem_zip (List.of_mem_zip ht).2).2
    exact of_decide_eq_true (List.all_eq_true.mp hb.2 _ this)
  · have hs : ((tr.map fun t => (t.1, t.2.2)).mergeSort (PySem.W.dataLe false fun b : V × PyData => b.2)) = (tr.mergeSort (PySem.W.dataLe false fun t : V × (D × PyData) => t.2.2)).map fun t => (t.1, t.2.2) := (PySem.W.sort_maps (fun t : V × (D × PyData) => (t.1, t.2.2)) fun _ _ _ _ => rfl).symm
    have hs2 : (xs.zip ps).mergeSort leD = (tr.mergeSort (PySem.W.dataLe false fun t : V × (D × PyData) => t.2.2)).map (·.2) := by
      rw [← m2]; exact (PySem.W.sort_maps (fun t : V × (D × PyData) => t.2) fun _ _ _ _ => rfl).symm
    rw [hs, List.map_map]
    have hdr : DRs K T S ((tr.mergeSort (PySem.W.dataLe false fun t : V × (D × PyData) => t.2.2)).map (·.1)) (sortD (xs.zip ps)) := by
      unfold sortD
      rw [sortS_eq leD_total, hs2, List.map_map]
      have := drs_of (K := K) (T := T) (S := S) (bs := (tr.mergeSort (PySem.W.dataLe false fun t : V × (D × PyData) => t.2.2)).map fun t => (t.1, t.2.1)) fun b hb => by
        obtain ⟨t, ht, rfl⟩ := List.mem_map.mp hb
        exact (hall t (List.mem_mergeSort.mp ht)).1
      rw [List.map_map, List.map_map] at this
      exact this
    obtain ⟨R2, rv⟩ := new_lst R hdr hp
    exact q _ _ _ (Same.refl S) R2 rv
end
section
variable {X : Cx} {T : Tab} {c P : Addr} {params : Arguments} {scope : Scope} {x : Str} {p pos q1 q2 q3 q4 q5 lpos kpos : Pos} {kk k : Nat} {e : Expr} {fe : EF}
theorem ee_sortKL (hr : Room (k + 2) X.A) (hg : Gl X "sorted") (hm : X.mg "sorted" = none) (hml : X.mg "len" = none) (TB : LamX.TabB X.base X.mg c P) (hcode : X.env.code = .ref c) (hmT : (P, X.env.qual ++ "<lambda>") ∈ T.tb) (hu : ∀ p ∈ T.tb, p.1 = P → p.2 = X.env.qual ++ "<lambda>") (S : ScpL scope x) (hdef : defaultsOf params X.env = ([], []))
    (hbind : ∀ (q : Str) (pm cv ctv v : Value), bindArgs (PySem.W.kla_fn "<lambda>" q params (bodyL x q1 q2 q3 q4 q5 kk) scope [] pm cv ctv) ⟨[v], []⟩ = pure [(x, v)]) (ha : PE X e (SE X.K T fe)) (he : backTo pos (starEach [e] X.env) = (false, eval e X.env) :: backTo pos (starEach [] X.env) := by rfl) (hpl : (backTo pos (starEach [e] X.env)).any (·.1) = false := by rfl)
    (hall : (backToKw pos (keywordEach [⟨some "key", .Lambda params (bodyL x q1 q2 q3 q4 q5 kk) scope lpos, kpos⟩] X.env)).all (·.1.isSome) = true := by rfl) (hnone : (backToKw pos (keywordEach [⟨some "key", .Lambda params (bodyL x q1 q2 q3 q4 q5 kk) scope lpos, kpos⟩] X.env)).any (·.1.isNone) = false := by rfl)
    (hks : (backToKw pos (keywordEach [⟨some "key", .Lambda params (bodyL x q1 q2 q3 q4 q5 kk) scope lpos, kpos⟩] X.env)).filterMap (·.1) = [Str.ofString "key"] := by rfl)
    (hev : (backToKw pos (keywordEach [⟨some "key", .Lambda params (bodyL x q1 q2 q3 q4 q5 kk) scope lpos, kpos⟩] X.env)).map (·.2) = [do let v ← eval (.Lambda params (bodyL x q1 q2 q3 q4 q5 kk) scope lpos) X.env; standAt pos; pure v] := by rfl) :
    PE X (.Call (.Name "sorted" p) [e] [⟨some "key", .Lambda params (bodyL x q1 q2 q3 q4 q5 kk) scope lpos, kpos⟩] pos) (SE X.K T (e1 oSortKL fe)) :=
  (pe_sortKL hr hg hm hml TB hcode hmT hu S hdef hbind ha he hpl hall hnone hks hev).imp fun σ H Q ⟨π, F, S0, ρ, r, ρ', R, e, q⟩ => by
    obtain ⟨⟨r1, ρ1⟩, e1, e⟩ := Res.bind_eq e
    obtain ⟨d, e2, e⟩ := Res.bind_eq e
    obtain ⟨res, e3, e⟩ := Res.bind_eq e
    cases e
    refine ⟨π, F, S0, ρ, r1, _, R, e1, fun S1 H1 v s1 R1 rv => ?_⟩
    obtain ⟨S2, s2, R2, hv⟩ := rv.hold R1
    refine ⟨R2.tb, fun H2 eN T2 => ?_⟩
    have R3 := R2.extN eN T2
    exact op_rSortK π F S2 _ σ H2 v d _ Q R3 (hv.rd R3 (Res.of_eq e2)) e3 fun S' H' w s' R' rw' => q S' H' w (s1.trans (s2.trans s')) R' rw'
end
end Dt
end

section
set_option Elab.async false
set_option linter.all false
set_option maxRecDepth 100000
set_option maxHeartbeats 4000000
set_option autoImplicit false
namespace Dt
open PySem PySem.Spec PyProof.Rows L2

/-! ### a constant of the module; list(range(n)) -/
section
variable {X : Cx} {T : Tab} {x : Str} {p pos p2 pos2 : Pos} {e : Expr} {fe : EF}
theorem ee_gint {i : Int} (hg : Gl X x) (h : ∃ t, X.mg x = some (.int i t)) (hd : (x == ("__debug__" : Str)) = false := by decide) : PE X (.Name x pos) (SE X.K T (eC (.int i))) :=
  ee_C (v := .int i) (C8.pe_gc hg (by obtain ⟨t, h⟩ := h; exact ⟨_, h, t, rfl⟩) hd) fun _ => .int i
def oLRange : D → Res RV
  | .int n => (Res.need (small n && decide (n.toNat ≤ 2 ^ 24))).bind fun _ => .ok (.own (.lst (intsD 0 n.toNat)))
  | _ => .bad
theorem rg_ints {K : PySem.W.Frag} {T : Tab} {S : Hp} {n : Int} : DRs K T S (rgV 0 n) (intsD 0 n.toNat) := by
  have h := drs_ints (K := K) (T := T) (S := S) ((List.range n.toNat).map fun i : Nat => (0 : Int) + (i : Int))
  rw [List.map_map, List.map_map] at h
  unfold rgV intsD
  rw [Int.sub_zero]
  exact h
theorem ee_lrange (hc : X.calm = true) (hg : Gl X "list") (hm : X.mg "list" = none) (hg2 : Gl X "range") (hm2 : X.mg "range" = none) (he : PE X e (SE X.K T fe)) (h1 : starEach [.Call (.Name "range" p2) [e] [] pos2] X.env = (false, eval (.Call (.Name "range" p2) [e] [] pos2) X.env) :: starEach [] X.env := by rfl)
    (h2 : starEach [e] X.env = (false, eval e X.env) :: starEach [] X.env := by rfl) : PE X (.Call (.Name "list" p) [.Call (.Name "range" p2) [e] [] pos2] [] pos) (SE X.K T (e1 oLRange fe)) := (pe_listRg hc hg hm (prg_1 hg2 hm2 he h2) h1).imp fun σ H Q h =>
  SE.e1 (r := fun x H1 Q => ∃ n, x = .int n ∧ RgOk 0 n ∧ ∀ q, H1 q = none → Q (.ref q) (upd H1 q (.lst (rgV 0 n)))) (by
    intro π F S ρ σ H x d res Q R hx hg q
    cases d <;> first | (cases hg; done) | skip
    obtain ⟨_, e1, hg⟩ := Res.bind_eq hg
    cases hg
    rename_i n _
    have e1 := Res.need_eq e1
    rw [Bool.and_eq_true] at e1
    obtain ⟨h1, h2⟩ := small_of e1.1
    have h3 := of_decide_eq_true e1.2
    refine ⟨_, hx.int, ⟨by decide, by decide, h1, h2, by omega⟩, fun l hl => ?_⟩
    obtain ⟨R2, rv⟩ := new_lst R rg_ints hl
    exact q _ _ _ (Same.refl S) R2 rv) h
end

/-! ### a def whose code object is known -/
structure FunC (K : PySem.W.Frag) (x qual : Str) (st : Stmt) (f : Addr) (fd : FuncData) (c : Addr) : Prop where
  ex : ∃ (oc : Value) (od : Option Addr) (kV doc pm : Value) (an : Option Addr) (ct : Value) (osl : Array (Option Value)),
    fd = PySem.W.fnOf x qual (defArgs st) (defBody st) (defScope st) .none kV doc pm an (.ref c) ct ∧ K.lookup f = some ⟨oc, od, .func fd, osl⟩ ∧ PySem.W.codeIn K (.ref c) qual = true
  kp : PySem.W.keepIn K (.ref f) = true
section
variable {P : Program} {w : World} {K : PySem.W.Frag} {T : Tab} {mg : Str → Option Value} {base : Heap}
theorem spF_len {fb : SF} {n m : Nat} {vs : List V} {H : Hp} {Q : VK} {E : XK} (h : SpF K T (runF n m fb) vs H Q E) : vs.length = n := by
  obtain ⟨F, S, cs, r, cs', R, e, _⟩ := h
  unfold runF at e
  split at e
  · rename_i hl
    rw [← hl, R.len, List.length_map]
  · cases e
theorem spF_body {N : List Str} {fb : SF} {n m : Nat} {vs : List V} {H : Hp} {Q : VK} {E : XK} (hm : N.length = n + m) (h : SpF K T (runF n m fb) vs H Q E) : SS K T fb { nx := fun _ H' => Q .non H', rt := Q } (L2.start N vs) H := by
  have hv := spF_len h
  obtain ⟨F, S, cs, r, cs', R, e, mr, q⟩ := h
  unfold runF at e
  split at e
  · rename_i hl
    obtain ⟨⟨fl, ρ'⟩, e1, e⟩ := Res.bind_eq e
    split at e
    · rename_i hp
      have hvN : vs.length ≤ N.length := by omega
      have em : m = N.length - vs.length := by omega
      refine ⟨L2.start N vs, F, S, cs ++ List.replicate (N.length - vs.length) .un, fl, ρ', R.pad hvN, by rw [← em]; exact e1, ?_⟩
      subst hv
      cases fl with
      | nx =>
        cases e
        exact fun S' σ' H' s' R' => q S' H' .non s' (R'.outs hvN hp) .non
      | ret ro =>
        cases ro with
        | fro d => cases e; exact fun S' σ' H' v s' R' rv => q S' H' v s' (R'.outs hvN hp) (rv.outs R' hvN rfl)
        | own d => cases e; exact fun S' σ' H' v s' R' rv => q S' H' v s' (R'.outs hvN hp) (rv.outs R' hvN rfl)
        | bor i => cases e
      | bk => cases e
      | ct => cases e
    · cases e
  · cases e
theorem def_okC {x qual : Str} {st : Stmt} {f c : Addr} {fd : FuncData} {N ps : List Str} {k : Nat} {fb : SF} {n m : Nat} (Fu : FunC K x qual st f fd c) (Sc : FnScope N ps (defScope st)) (hn : ps.length = n) (hm : N.length = n + m)
    (body : ∀ (A : Around) (outer : List PySem.Env) (s : Shared) (H : Hp) (E : XK), Room k (A.deeper (envOfC qual (defScope st) s.heap.objs.size f (.ref c))) → PSs (cxOf CX0 P w K mg base N qual (defScope st) f (.ref c) A outer s H E).nox (defBody st) (SS K T fb)) :
    FnOk P w K mg base CX0 (k + 1) f fd ps (SpF K T (runF n m fb)) := by
  obtain ⟨oc, od, kV, doc, pm, an, ct, osl, rfl, lk, hcd⟩ := Fu.ex
  refine fn_of lk hcd Sc (fun vs H Q E h => (spF_len h).trans hn.symm) fun A outer s H vs Q E hr h => ?_
  exact ⟨_, (body A outer s H E hr).nox, spF_body hm h⟩
end
/-- the scope of a lambda of one name -/
def scpB (sc : Scope) (x : Str) : Bool := decide (sc.kind = .function) && (!sc.isCoroutine && (!sc.isGenerator && (sc.names.all (fun y => decide (y.2 ≠ .cell) && decide (y.2 ≠ .free)) && (decide (sc.names.lookup x = some .local) && (decide (sc.names.lookup ("len" : Str) = some .globalImplicit) && !(x == ("__debug__" : Str)))))))
theorem scp_by {sc : Scope} {x : Str} (h : scpB sc x = true) : ScpL sc x := by
  unfold scpB at h
  simp only [Bool.and_eq_true, Bool.not_eq_true', decide_eq_true_eq, List.all_eq_true] at h
  obtain ⟨h1, h2, h3, h4, h5, h6, h7⟩ := h
  exact ⟨h1, h2, h3, fun y hy => (h4 y hy).1, fun y hy => (h4 y hy).2, h5, h6, h7⟩
end Dt
end

section
set_option Elab.async false
set_option linter.all false
set_option maxRecDepth 100000
set_option maxHeartbeats 4000000
set_option autoImplicit false
namespace Dt
open PySem PySem.Spec PyProof.Rows L2 He

/-! ### the head: defs by an address that is looked up -/
structure DefY where
  adr : PySem.W.Frag → Addr
  name : Str
  qual : Str
  st : Stmt
def fnY (K : PySem.W.Frag) (d : DefY) : FnW := match K.lookup (d.adr K) with
  | some ⟨_, _, .func fd, _⟩ => some (fd.name, fd.qualname, fd.params, fd.body, fd.scope, fd.globals, fd.closure, fd.builtins)
  | _ => none
def DefY.val (d : DefY) : FnW := some (d.name, d.qual, defArgs d.st, .stmts (defBody d.st), defScope d.st, mainGlobals, [], builtinsNs)
def DefY.ok (K : PySem.W.Frag) (d : DefY) : Bool := PySem.W.keepIn K (.ref (d.adr K)) && (match K.lookup (d.adr K) with
  | some ⟨_, _, .func fd, _⟩ => PySem.W.codeIn K fd.code d.qual && dflB K fd.defaults []
  | _ => false)
/-- the code object of the def at a -/
def codeY (K : PySem.W.Frag) (a : Addr) : Addr := match K.lookup a with
  | some ⟨_, _, .func fd, _⟩ => (match fd.code with
    | .ref c => c
    | _ => 0)
  | _ => 0
def fdY (K : PySem.W.Frag) (a : Addr) : FuncData := match K.lookup a with
  | some ⟨_, _, .func fd, _⟩ => fd
  | _ => PySem.W.fnOf Str.empty Str.empty ⟨[], [], none, [], [], none, []⟩ [] ⟨.function, [], false, false, []⟩ .none .none .none .none none .none .none
theorem DefY.funC {K : PySem.W.Frag} {d : DefY} (e : fnY K d = d.val) (c : d.ok K = true) : FunC K d.name d.qual d.st (d.adr K) (fdY K (d.adr K)) (codeY K (d.adr K)) := by
  obtain ⟨kp, c2⟩ := ba c
  unfold fnY at e
  cases q : K.lookup (d.adr K) with
  | none => rw [q] at c2; cases c2
  | some o =>
    obtain ⟨oc, od, dt, osl⟩ := o
    rw [q] at c2 e
    cases dt with
    | func fd =>
      obtain ⟨n1, n2, n3, n4, n5, n6, n7, n8, n9, n10, n11, n12, n13, n14, n15⟩ := fd
      have e2 : (some (n1, n2, n3, n4, n5, n6, n7, n15) : FnW) = some (d.name, d.qual, defArgs d.st, .stmts (defBody d.st), defScope d.st, mainGlobals, [], builtinsNs) := e
      simp only [Option.some.injEq, Prod.mk.injEq] at e2
      obtain ⟨h1, h2, h3, h4, h5, h6, h7, h8⟩ := e2
      subst h1 h2 h3 h4 h5 h6 h7 h8
      obtain ⟨k1, k2⟩ := ba (show (PySem.W.codeIn K n13 d.qual && dflB K n8 []) = true from c2)
      have en : n8 = .none := by
        rcases dflB_ok k2 with ⟨_, h⟩ | ⟨h, _⟩
        · exact h
        · exact absurd rfl h
      subst en
      obtain ⟨cc, ec⟩ := codeIn_ref k1
      subst ec
      have ef : fdY K (d.adr K) = PySem.W.fnOf d.name d.qual (defArgs d.st) (defBody d.st) (defScope d.st) .none n9 n10 n11 n12 (.ref cc) n14 := by
        unfold fdY; rw [q]
      have ek : codeY K (d.adr K) = cc := by unfold codeY; rw [q]
      refine ⟨⟨oc, od, n9, n10, n11, n12, n14, osl, ?_, ?_, ?_⟩, kp⟩
      · rw [ek]; exact ef
      · rw [ef]; exact q
      · rw [ek]; exact k1
    | _ => cases c2
theorem FunC.fun_ {K : PySem.W.Frag} {x q : Str} {st : Stmt} {f c : Addr} {fd : FuncData} (h : FunC K x q st f fd c) : Fun K x q st f fd := by
  obtain ⟨oc, od, kV, doc, pm, an, ct, osl, e, l, k⟩ := h.ex
  exact ⟨⟨oc, od, kV, doc, pm, an, .ref c, ct, osl, e, l, k⟩, h.kp⟩
theorem FunC.binds {K : PySem.W.Frag} {x q : Str} {st : Stmt} {f c : Addr} {fd : FuncData} {ps : List Str} (F : FunC K x q st f fd c)
    (h : ∀ (kV doc pm : Value) (an : Option Addr) (cdv ct : Value) (us : List Value), us.length = ps.length → bindArgs (PySem.W.fnOf x q (defArgs st) (defBody st) (defScope st) .none kV doc pm an cdv ct) ⟨us, []⟩ = pure (ps.zip us)) : Binds K fd ps [] := F.fun_.binds h
theorem FunC.bindsA {K : PySem.W.Frag} {x q : Str} {st : Stmt} {f c : Addr} {fd : FuncData} {ps : List Str} (F : FunC K x q st f fd c)
    (h : ∀ (kV doc pm : Value) (an : Option Addr) (cdv ct : Value) (us : List Value), us.length = ps.length → bindArgs (PySem.W.fnOf x q (defArgs st) (defBody st) (defScope st) .none kV doc pm an cdv ct) ⟨us, []⟩ = pure (ps.zip us)) (s : Shared) (us : List Value) (hl : us.length = ps.length) : BindsTo s fd ⟨us, []⟩ (ps.zip us) := by
  obtain ⟨oc, od, kV, doc, pm, an, ct, osl, rfl, l, k⟩ := F.ex
  exact .of_eq (h kV doc pm an _ ct us hl)
/-! ### properties, len, isinstance -/
def propA (K : PySem.W.Frag) (C : Addr) (f : Str) : Addr := match PySem.W.findIn K (.ref C) f with
  | some (some (.ref p)) => p
  | _ => 0
def getA (K : PySem.W.Frag) (C : Addr) (f : Str) : Addr := match PySem.W.recIn K (propA K C f) "property" with
  | some (.ref g :: _) => g
  | _ => 0
def propB (K : PySem.W.Frag) (C : Addr) (f : Str) : Bool := eqO (PySem.W.findIn K (.ref C) f) (some (some (.ref (propA K C f)))) && (eqO (PySem.W.specialIn K (.ref (propA K C f)) "__get__") (some (some (.builtin "property.__get__"))) && (decide (PySem.W.takesIn K (.ref (propA K C f)) = some true) && (match PySem.W.recIn K (propA K C f) "property" with
  | some (.ref g :: _) => decide (g = getA K C f)
  | _ => false)))
theorem propB_ok {K : PySem.W.Frag} {C : Addr} {f : Str} (h : propB K C f = true) : PropOf K C f (propA K C f) (getA K C f) := by
  obtain ⟨h1, h⟩ := ba h
  obtain ⟨h2, h⟩ := ba h
  obtain ⟨h3, h4⟩ := ba h
  refine ⟨eqO_ok h1, eqO_ok h2, of_decide_eq_true h3, ?_⟩
  split at h4
  · rename_i g rest e
    rw [of_decide_eq_true h4] at e
    exact ⟨rest, e⟩
  · cases h4
def clsIB (K : PySem.W.Frag) (C : Addr) : Bool := eqO (PySem.W.findIn K (.ref C) "__class__") (some (some (.builtin "object.__class__"))) && (eqO (PySem.W.specialIn K (.builtin "object.__class__") "__get__") (some (some (.builtin "getset_descriptor.__get__"))) && (decide (PySem.W.takesIn K (.builtin "object.__class__") = some true) && decide (PySem.W.mroIn K C (.type "object") = some true)))
theorem clsIB_ok {K : PySem.W.Frag} {C : Addr} (c : Cls K C) (h : clsIB K C = true) : ClsI K C := by
  obtain ⟨h1, h⟩ := ba h
  obtain ⟨h2, h⟩ := ba h
  obtain ⟨h3, h4⟩ := ba h
  exact ⟨c, eqO_ok h1, eqO_ok h2, of_decide_eq_true h3, of_decide_eq_true h4⟩
def isiB (K : PySem.W.Frag) (ca : Nat → Addr) (u : Value) (k : Isi) : Bool := decide (PySem.W.kitOne K (.type "NoneType") u = some k.n) && (decide (PySem.W.kitOne K (.type "bool") u = some k.b) && (decide (PySem.W.kitOne K (.type "int") u = some k.i) && (decide (PySem.W.kitOne K (.type "str") u = some k.s) && (decide (PySem.W.kitOne K (.type "tuple") u = some k.t) && (decide (PySem.W.kitOne K (.type "list") u = some k.l) && k.o.all fun p => decide (PySem.W.kitOne K (.ref (ca p.1)) u = some p.2))))))
theorem lookup_in {c : Nat} {b : Bool} : ∀ {l : List (Nat × Bool)}, l.lookup c = some b → (c, b) ∈ l
  | [], h => by cases h
  | (x, y) :: r, h => by
    have h2 : (match c == x with | true => some y | false => r.lookup c) = some b := h
    cases q : (c == x) with
    | true =>
      rw [q] at h2
      have e : y = b := Option.some.inj h2
      rw [beq_iff_eq.mp q, e]
      exact List.mem_cons_self ..
    | false =>
      rw [q] at h2
      exact List.mem_cons_of_mem _ (lookup_in h2)
theorem isiB_ok {K : PySem.W.Frag} {T : Tab} {u : Value} {k : Isi} (cl : ∀ p ∈ k.o, ClsI K (T.ca p.1)) (h : isiB K T.ca u k = true) : IsiOk K T u k := by
  obtain ⟨h1, h⟩ := ba h
  obtain ⟨h2, h⟩ := ba h
  obtain ⟨h3, h⟩ := ba h
  obtain ⟨h4, h⟩ := ba h
  obtain ⟨h5, h⟩ := ba h
  obtain ⟨h6, h7⟩ := ba h
  refine ⟨of_decide_eq_true h1, of_decide_eq_true h2, of_decide_eq_true h3, of_decide_eq_true h4, of_decide_eq_true h5, of_decide_eq_true h6, fun c b hb => ?_⟩
  have hm := lookup_in hb
  exact ⟨cl _ hm, of_decide_eq_true (List.all_eq_true.mp h7 _ hm)⟩
/-! ### the Hook -/
abbrev AlY : Type := List FnW × Bool
def obsYK (fa : List Fa) (fn : List DefY) (ex : PySem.W.Frag → Bool) (tb : Bool) (K : PySem.W.Frag) : AlY := (fn.map (fnY K), (fa.all fun f => f.ok K) && ((fn.all fun d => d.ok K) && (ex K && tb)))
def obsY (n : Nat) (fa : List Fa) (fn : List DefY) (tf : List Defn) (ex : PySem.W.Frag → Bool) (g : Addr → Option Obj) : AlY := obsYK fa fn ex (tabsB g tf (frT g (asD g n))) (frT g (asD g n))
def valY (fn : List DefY) : AlY := (fn.map DefY.val, true)
structure SaysY (fa : List Fa) (fn : List DefY) (tf : List Defn) (ex : PySem.W.Frag → Bool) (h : Heap) (K : PySem.W.Frag) : Prop where
  fact : ∀ f ∈ fa, f.ok K = true
  def_ : ∀ d ∈ fn, FunC K d.name d.qual d.st (d.adr K) (fdY K (d.adr K)) (codeY K (d.adr K))
  more : ex K = true
  hd : ∀ p ∈ tf, PySem.W.codeHdIn K (cT K p).1 (cT K p).2 = true
  out : ∀ p ∈ tf, K.lookup (cT K p).2 = none
  empty : ∀ p ∈ tf, h.get? (cT K p).2 = some { cls := .none, data := .fields #[] }
theorem saysY_of {n : Nat} {fa : List Fa} {fn : List DefY} {tf : List Defn} {ex : PySem.W.Frag → Bool} {h : Heap} (e : obsY n fa fn tf ex h.get? = valY fn) : SaysY fa fn tf ex h (frT h.get? (asD h.get? n)) := by
  have e1 : fn.map (fnY (frT h.get? (asD h.get? n))) = fn.map DefY.val := congrArg (fun z : AlY => z.1) e
  have e2 := congrArg (fun z : AlY => z.2) e
  obtain ⟨a1, a2⟩ := ba e2
  obtain ⟨a3, a4⟩ := ba a2
  obtain ⟨a5, a6⟩ := ba a4
  have key : ∀ p ∈ tf, PySem.W.codeHdIn (frT h.get? (asD h.get? n)) (cT (frT h.get? (asD h.get? n)) p).1 (cT (frT h.get? (asD h.get? n)) p).2 = true ∧ ∃ o, h.get? (cT (frT h.get? (asD h.get? n)) p).2 = some o ∧ emptyTab o = true := fun p hp => by
    obtain ⟨h3, h4⟩ := ba (List.all_eq_true.mp a6 p hp)
    refine ⟨h3, ?_⟩
    rcases q : h.get? (cT (frT h.get? (asD h.get? n)) p).2 with _ | o
    · rw [q] at h4; cases h4
    · rw [q] at h4; exact ⟨o, rfl, h4⟩
  refine ⟨List.all_eq_true.mp a1, fun d hd => ?_, a5, fun p hp => (key p hp).1, fun p hp => ?_, fun p hp => ?_⟩
  · obtain ⟨i, hi⟩ := List.mem_iff_getElem?.mp hd
    have e3 : (fn.map (fnY (frT h.get? (asD h.get? n))))[i]? = (fn.map DefY.val)[i]? := by rw [e1]
    rw [List.getElem?_map, List.getElem?_map, hi] at e3
    exact DefY.funC (Option.some.inj e3) (List.all_eq_true.mp a3 d hd)
  · obtain ⟨_, o, q, z⟩ := key p hp
    exact frT_none q z
  · obtain ⟨_, o, q, z⟩ := key p hp
    rw [q, emptyTab_eq z]
def hookY (n : Nat) (fa : List Fa) (fn : List DefY) (tf : List Defn) (ex : PySem.W.Frag → Bool) : PySem.W.Hook where
  α := AlY
  obs := fun s => obsY n fa fn tf ex s.heap.get?
  val := fun _ => valY fn
  says := fun _ h => ∃ K : PySem.W.Frag, K.In h ∧ SaysY fa fn tf ex h K
  of := fun _ _ e => ⟨_, frT_in, saysY_of e⟩
  keeps := fun _ _ _ ⟨K, hK, c⟩ k => ⟨K, PySem.W.Frag.In.keeps hK k, ⟨c.fact, c.def_, c.more, c.hd, c.out, fun p hp => k _ _ (c.empty p hp)⟩⟩
theorem obsY_eq {n : Nat} {fa : List Fa} {fn : List DefY} {tf : List Defn} {ex : PySem.W.Frag → Bool} {g : Addr → Option Obj} {s : Shared} (h : ∀ a, g a = s.heap.get? a) : obsY n fa fn tf ex g = (hookY n fa fn tf ex).obs s := by
  rw [show g = s.heap.get? from funext h] <;> rfl
/-! ### from the facts to what the derivations ask -/
theorem fldOk_of {K : PySem.W.Frag} {T : Dt.Tab} {tbl : List (Nat × Nat)} {f : Str} (h : ∀ p ∈ tbl, ClsOk K T p.1 ∧ (T.fl p.1)[p.2]? = some f) : FldOk K T tbl f := fun c k hk => by
  have hm : (c, k) ∈ tbl := by
    clear h
    induction tbl with
    | nil => cases hk
    | cons p r ih =>
      obtain ⟨x, y⟩ := p
      have h2 : (match c == x with | true => some y | false => r.lookup c) = some k := hk
      cases q : (c == x) with
      | true =>
        rw [q] at h2
        have e : y = k := Option.some.inj h2
        rw [beq_iff_eq.mp q, e]
        exact List.mem_cons_self ..
      | false =>
        rw [q] at h2
        exact List.mem_cons_of_mem _ (ih h2)
  exact h _ hm
/-- the law's promise at the script -/
theorem law_sp {K : PySem.W.Frag} {T : Dt.Tab} {f : Fm} {H : Hp} {a : Addr} {ns : List Int} {cs : List Cell} {E : XK} (hT : LamX.Tabs T.tb H) (hS : SqL K H a (ns.map V.int)) (e : f [.fro (.scr ns)] = .ok (.fro (.bl true), cs)) : SpF K T f [.ref a] H (fun v _ => v = .bl true) E := by
  obtain ⟨S, s1, s2, s3⟩ : ∃ S : Hp, Same S H ∧ NT S ∧ SqL K S a (ns.map V.int) := by
    rcases hS with h | h
    · refine ⟨fun b => if b = a then H a else none, fun b o q => ?_, fun b ps q => ?_, ?_⟩
      · by_cases hb : b = a
        · subst hb; simpa using q
        · simp [hb] at q
      · by_cases hb : b = a
        · subst hb
          have q : H b = some (.tbl ps) := by simpa using q
          rcases h with h | ⟨o, h⟩ <;> (rw [q] at h; cases h)
        · simp [hb] at q
      · rcases h with h | ⟨o, h⟩
        · exact .inl (.inl (by simpa using h))
        · exact .inl (.inr ⟨o, by simpa using h⟩)
    · exact ⟨fun _ => none, fun b o q => (by cases q), fun b ps q => (by cases q), .inr h⟩
  refine ⟨fun _ => none, S, _, _, _, ⟨s1, fun b o q => (by cases q), fun b o q => (by cases q), s2, fun b ps q => (by cases q), hT, rfl, fun i c hc => ?_, fun i j b ci cj hi hj mi mj ei ej => ?_⟩, e, rfl, fun S' H' v s' R' rv => ?_⟩
  · match i, hc with
    | 0, hc =>
      cases hc
      exact ⟨.ref a, rfl, .scr s3⟩
    | i + 1, hc => simp at hc
  · match i, hi with
    | 0, hi => cases hi; cases mi
    | i + 1, hi => simp at hi
  · cases (show DR K T S' v (.bl true) from rv)
    rfl
end Dt
end

section
set_option Elab.async false
set_option linter.all false
set_option maxRecDepth 100000
set_option maxHeartbeats 4000000
set_option autoImplicit false
namespace Dt
open PySem PySem.Spec PyProof.Rows L2

/-! ### several names at once, fresh objects of ours among the values -/
/-- none of the fresh objects stands at a -/
def NoOwn (a : Addr) (vs : List V) (rs : List RV) : Prop := ∀ (i : Nat) (d : D), rs[i]? = some (.own d) → vs[i]? ≠ some (.ref a)
inductive OwnAll (K : PySem.W.Frag) (T : Tab) (F S H : Hp) (ρ : Env) (σ : L2.St) : List V → List RV → Prop
  | nil : OwnAll K T F S H ρ σ [] []
  | cons {v : V} {vs : List V} {r : RV} {rs : List RV} : RVR K T F S H ρ σ v r → r.made = true → (∀ a d, v = .ref a → r = .own d → NoOwn a vs rs) → OwnAll K T F S H ρ σ vs rs → OwnAll K T F S H ρ σ (v :: vs) (r :: rs)
def SO (K : PySem.W.Frag) (T : Tab) (f : AF) : TA := fun σ H Q => ∃ π F S ρ rs ρ', Rel K T π F S ρ σ H ∧ f ρ = .ok (rs, ρ') ∧ ∀ S' H' vs, Same S S' → Rel K T π F S' ρ' σ H' → OwnAll K T F S' H' ρ' σ vs rs → Q vs H'
def aoNil : AF := fun ρ => .ok ([], ρ)
def aoCons (f : EF) (g : AF) : AF := fun ρ => (f ρ).bind fun p => (Res.need p.1.made).bind fun _ => (g p.2).bind fun q => .ok (p.1 :: q.1, q.2)
section
variable {K : PySem.W.Frag} {T : Tab} {π σ : L2.St} {F S S' H H' : Hp} {ρ ρ' : Env} {a : Addr} {v : V} {d : D} {r : RV} {vs : List V} {rs : List RV}
theorem OwnAll.length (h : OwnAll K T F S H ρ σ vs rs) : vs.length = rs.length := by
  induction h with
  | nil => rfl
  | cons _ _ _ _ ih => simp [ih]
/-- the object put aside is ours again -/
theorem OwnAll.unlend {o : HO} (n : F a = none) (h : OwnAll K T (upd F a o) S H ρ σ vs rs) : OwnAll K T F S H ρ σ vs rs ∧ NoOwn a vs rs := by
  induction h with
  | nil => exact ⟨.nil, fun i d e => by simp at e⟩
  | @cons v vs r rs h m ne _ ih =>
    refine ⟨.cons ?_ m ne ih.1, fun i d e => ?_⟩
    · cases r with
      | bor _ => cases m
      | fro _ => exact h
      | own d =>
        obtain ⟨b, rfl, ob, ap⟩ := h
        refine ⟨b, rfl, ⟨ob.1, ?_, ob.2.2⟩, ap⟩
        have q := ob.2.1
        by_cases hb : b = a
        · subst hb; exact n
        · rw [upd_ne hb] at q; exact q
    · cases i with
      | zero =>
        cases e
        obtain ⟨b, rfl, ob, ap⟩ := h
        intro z
        cases z
        have q := ob.2.1
        rw [upd_same] at q; cases q
      | succ i => exact ih.2 i d e
theorem OwnAll.alloc {p : Addr} {o : HO} (hp : H p = none) (h : OwnAll K T F S H ρ σ vs rs) : OwnAll K T F S (upd H p o) ρ σ vs rs := by
  induction h with
  | nil => exact .nil
  | @cons v vs r rs h m ne _ ih =>
    refine .cons ?_ m ne ih
    cases r with
    | bor _ => cases m
    | fro _ => exact h
    | own d =>
      obtain ⟨b, rfl, ob, ap⟩ := h
      obtain ⟨x, hx⟩ := ob.2.2.there
      exact ⟨b, rfl, ob.heap (upd_ne (ne_of_none hx hp)), ap⟩
def storeCs : List RV → Option (List Cell)
  | [] => some []
  | r :: rs => match storeC r, storeCs rs with
    | some c, some cs => some (c :: cs)
    | _, _ => none
def setAll : Env → List Nat → List Cell → Env
  | ρ, i :: is, c :: cs => setAll (ρ.set i c) is cs
  | ρ, _, _ => ρ
def setAllV : L2.St → List Nat → List V → L2.St
  | σ, i :: is, v :: vs => setAllV (σ.set i (some v)) is vs
  | σ, _, _ => σ
theorem OwnAll.stored {i : Nat} {c : Cell} (hc : storeC r = some c) (ne : ∀ a d, v = .ref a → r = .own d → NoOwn a vs rs) (hv : RVR K T F S H ρ σ v r) (h : OwnAll K T F S H ρ σ vs rs) : OwnAll K T F S H (ρ.set i c) (σ.set i (some v)) vs rs := by
  induction h with
  | nil => exact .nil
  | @cons w vs q rs h m ne' _ ih =>
    refine .cons ?_ m ne' (ih fun a d e1 e2 k x hk => ne a d e1 e2 (k + 1) x hk)
    cases q with
    | bor _ => cases m
    | fro _ => exact h
    | own d =>
      obtain ⟨b, rfl, ob, ap⟩ := h
      refine ⟨b, rfl, ob, fun k ck hk mk z => ?_⟩
      rcases getElem?_set_cases hk with ⟨rfl, rfl⟩ | ⟨nk, hk⟩
      · have hl : k < σ.length := by
          have := (List.getElem?_eq_some_iff.mp z).1
          rw [List.length_set] at this; exact this
        rw [List.getElem?_set_self hl] at z
        cases z
        cases r with
        | bor _ => cases hc
        | fro _ => cases hc; cases mk
        | own d' => exact ne b d' rfl rfl 0 d rfl rfl
      · rw [List.getElem?_set_ne (Ne.symm nk)] at z
        exact ap k ck hk mk z
theorem Rel.storeAll : ∀ {vs : List V} {rs : List RV} {cs : List Cell} {is : List Nat} {ρ : Env} {σ : L2.St}, Rel K T π F S ρ σ H → OwnAll K T F S H ρ σ vs rs → storeCs rs = some cs → Rel K T π F S (setAll ρ is cs) (setAllV σ is vs) H
  | [], _, _, is, ρ, σ, R, .nil, e => by
    cases e
    cases is <;> exact R
  | v :: vs, r :: rs, cs, is, ρ, σ, R, .cons h m ne t, e => by
    unfold storeCs at e
    split at e
    · rename_i c cs' e1 e2
      cases e
      cases is with
      | nil => exact R
      | cons i is =>
        have z : Rel K T π F S (setAll (ρ.set i c) is cs') (setAllV (σ.set i (some v)) is vs) H := by
          have R1 := R.store (i := i) h e1
          have t1 := OwnAll.stored (i := i) e1 ne h t
          exact Rel.storeAll R1 t1 e2
        exact z
    · cases e
end
def sParL (is : List Nat) (g : AF) : SF := fun ρ => (g ρ).bind fun p => (Res.of (storeCs p.1)).bind fun cs => (Res.need (cs.length == is.length)).bind fun _ => .ok (.nx, setAll p.2 is cs)
theorem storeCs_len : ∀ {rs : List RV} {cs : List Cell}, storeCs rs = some cs → cs.length = rs.length
  | [], _, e => by cases e; rfl
  | r :: rs, cs, e => by
    unfold storeCs at e
    split at e
    · rename_i c cs' e1 e2
      cases e
      simp [storeCs_len e2]
    · cases e
section
variable {X : Cx} {T : Tab} {f : EF} {g : AF} {e a b c : Expr} {es : List Expr}
theorem ao_nil : PA X [] (SO X.K T aoNil) := pa_nil.imp fun σ H Q ⟨π, F, S, ρ, rs, ρ', R, e, q⟩ => by
  cases e
  exact q S H [] (Same.refl S) R .nil
theorem ao_cons (he : PE X e (SE X.K T f)) (ha : PA X es (SO X.K T g)) (hs : starEach (e :: es) X.env = (false, eval e X.env) :: starEach es X.env := by rfl) : PA X (e :: es) (SO X.K T (aoCons f g)) := (pa_cons he ha hs).imp fun σ H Q ⟨π, F, S, ρ, rs, ρ', R, e, q⟩ => by
  obtain ⟨⟨r1, ρ1⟩, e1, e⟩ := Res.bind_eq e
  obtain ⟨_, e2, e⟩ := Res.bind_eq e
  obtain ⟨⟨rs2, ρ2⟩, e3, e⟩ := Res.bind_eq e
  cases e
  have m := Res.need_eq e2
  refine ⟨π, F, S, ρ, r1, ρ1, R, e1, fun S1 H1 v s1 R1 rv => ?_⟩
  cases r1 with
  | bor _ => cases m
  | fro d1 => exact ⟨π, F, S1, ρ1, rs2, _, R1, e3, fun S2 H2 vs s2 R2 oa => q S2 H2 (v :: vs) (s1.trans s2) R2 (.cons (r := .fro d1) (DR.mono s2 rv) rfl (fun _ _ _ z => nomatch z) oa)⟩
  | own d1 =>
    obtain ⟨a1, rfl, o1, ap1⟩ := rv
    obtain ⟨o, ho⟩ := o1.2.2.there
    refine ⟨π, _, S1, ρ1, rs2, _, R1.lend o1 ap1 ho, e3, fun S2 H2 vs s2 R2 oa => ?_⟩
    obtain ⟨R3, h3, nS2, ap3⟩ := Rel.unlend o1.2.1 R2
    obtain ⟨oa', no⟩ := oa.unlend o1.2.1
    exact q S2 H2 (.ref a1 :: vs) (s1.trans s2) R3 (.cons (r := .own d1) ⟨a1, rfl, ⟨nS2, o1.2.1, (o1.2.2.mono s2).heap (h3.trans ho.symm)⟩, ap3⟩ rfl (fun a d z _ => by cases z; exact no) oa')
variable {x y z u : Str} {px py pz pu pt pos pt2 : Pos} {i j l m kt k2 : Nat}
theorem ss_par3 (hc : X.calm = true) (hN : X.N.Nodup) (hi : X.N[i]? = some x) (hj : X.N[j]? = some y) (hl : X.N[l]? = some z) (hij : i ≠ j) (hil : i ≠ l) (hjl : j ≠ l)
    (hx : X.env.scope.names.lookup x = some .local) (hy : X.env.scope.names.lookup y = some .local) (hz : X.env.scope.names.lookup z = some .local) (ha : PA X [a, b, c] (SO X.K T g))
    (hw : swappedStores [.Tuple [.Name x px, .Name y py, .Name z pz] kt pt] (.Tuple [a, b, c] k2 pt2) X.env = pure (some [x, y, z]) := by rfl)
    (hs : swapsWithSole [.Tuple [.Name x px, .Name y py, .Name z pz] kt pt] (.Tuple [a, b, c] k2 pt2) pos.line X.env = pure false := by rfl) :
    PS X (.Assign [.Tuple [.Name x px, .Name y py, .Name z pz] kt pt] (.Tuple [a, b, c] k2 pt2) pos) (SS X.K T (sParL [i, j, l] g)) := (ps_par3 hc hN hi hj hl hij hil hjl hx hy hz ha hw hs).imp fun D σ H ⟨π, F, S, ρ, fl, ρ', R, e, q⟩ => by
  obtain ⟨⟨rs, ρ1⟩, e1, e⟩ := Res.bind_eq e
  obtain ⟨cs, e2, e⟩ := Res.bind_eq e
  obtain ⟨_, e3, e⟩ := Res.bind_eq e
  cases e
  refine ⟨π, F, S, ρ, rs, ρ1, R, e1, fun S1 H1 vs s1 R1 oa => ?_⟩
  have l1 : vs.length = 3 := by
    rw [oa.length, ← storeCs_len (Res.of_eq e2)]
    simpa using Res.need_eq e3
  match vs, l1, oa with
  | [v1, v2, v3], _, oa => exact ⟨v1, v2, v3, rfl, q S1 _ H1 s1 (R1.storeAll (is := [i, j, l]) oa (Res.of_eq e2))⟩
/-- four names -/
theorem ss_par4 {e4 : Expr} (hc : X.calm = true) (hN : X.N.Nodup) (hi : X.N[i]? = some x) (hj : X.N[j]? = some y) (hl : X.N[l]? = some z) (hm : X.N[m]? = some u)
    (hx : Loc X.env.scope x) (hy : Loc X.env.scope y) (hz : Loc X.env.scope z) (hu : Loc X.env.scope u) (ha : PA X [a, b, c, e4] (SO X.K T g))
    (hs : swapsWithSole [.Tuple [.Name x px, .Name y py, .Name z pz, .Name u pu] kt pt] (.Tuple [a, b, c, e4] k2 pt2) pos.line X.env = pure false := by rfl)
    (hw : swappedStores [.Tuple [.Name x px, .Name y py, .Name z pz, .Name u pu] kt pt] (.Tuple [a, b, c, e4] k2 pt2) X.env = pure none := by rfl)
    (h1 : (assignEach [.Tuple [.Name x px, .Name y py, .Name z pz, .Name u pu] kt pt] X.env).map (·.2) = [assign (.Tuple [.Name x px, .Name y py, .Name z pz, .Name u pu] kt pt) X.env] := by rfl)
    (f1 : X.fn x = true ∨ X.env.scope.names.lookup x = some .local := by first | exact .inl rfl | exact .inr rfl | assumption) (f2 : X.fn y = true ∨ X.env.scope.names.lookup y = some .local := by first | exact .inl rfl | exact .inr rfl | assumption)
    (f3 : X.fn z = true ∨ X.env.scope.names.lookup z = some .local := by first | exact .inl rfl | exact .inr rfl | assumption) (f4 : X.fn u = true ∨ X.env.scope.names.lookup u = some .local := by first | exact .inl rfl | exact .inr rfl | assumption)
    (n1 : (assignEach [.Name x px, .Name y py, .Name z pz, .Name u pu] X.env).length = 4 := by rfl) (n2 : (assignEach [.Name x px, .Name y py, .Name z pz, .Name u pu] X.env).findIdx? (·.1) = none := by rfl)
    (g1 : (assignEach [.Name x px, .Name y py, .Name z pz, .Name u pu] X.env).map (·.2) = assign (.Name x px) X.env :: (assignEach [.Name y py, .Name z pz, .Name u pu] X.env).map (·.2) := by rfl)
    (g2 : (assignEach [.Name y py, .Name z pz, .Name u pu] X.env).map (·.2) = assign (.Name y py) X.env :: (assignEach [.Name z pz, .Name u pu] X.env).map (·.2) := by rfl)
    (g3 : (assignEach [.Name z pz, .Name u pu] X.env).map (·.2) = assign (.Name z pz) X.env :: (assignEach [.Name u pu] X.env).map (·.2) := by rfl)
    (g4 : (assignEach [.Name u pu] X.env).map (·.2) = assign (.Name u pu) X.env :: (assignEach [] X.env).map (·.2) := by rfl) :
    PS X (.Assign [.Tuple [.Name x px, .Name y py, .Name z pz, .Name u pu] kt pt] (.Tuple [a, b, c, e4] k2 pt2) pos) (SS X.K T (sParL [i, j, l, m] g)) :=
  (ps_asg (pe_tup ha) (pg_tup hc (pgs_cons (pg_name hN hi hx f1) (pgs_cons (pg_name hN hj hy f2) (pgs_cons (pg_name hN hl hz f3) (pgs_cons (pg_name hN hm hu f4) pgs_nil g4) g3) g2) g1) n1 n2) hs hw h1).imp fun D σ H ⟨π, F, S, ρ, fl, ρ', R, e, q⟩ => by
  obtain ⟨⟨rs, ρ1⟩, e1, e⟩ := Res.bind_eq e
  obtain ⟨cs, e2, e⟩ := Res.bind_eq e
  obtain ⟨_, e3, e⟩ := Res.bind_eq e
  cases e
  refine ⟨π, F, S, ρ, rs, ρ1, R, e1, fun S1 H1 vs s1 R1 oa => ?_⟩
  have l1 : vs.length = 4 := by
    rw [oa.length, ← storeCs_len (Res.of_eq e2)]
    simpa using Res.need_eq e3
  match vs, l1, oa with
  | [v1, v2, v3, v4], _, oa =>
    refine ⟨by show 4 ≤ sizeLine; decide, fun p hp => ?_⟩
    exact ⟨p, _, rfl, .of upd_same, rfl, _, _, rfl, _, _, rfl, _, _, rfl, _, _, rfl, rfl, q S1 _ _ s1 (Rel.storeAll (is := [i, j, l, m]) (R1.alloc hp) (oa.alloc hp) (Res.of_eq e2))⟩
end
end Dt
end

section
set_option Elab.async false
set_option linter.all false
set_option maxRecDepth 100000
set_option maxHeartbeats 4000000
set_option autoImplicit false
namespace Dt
open PySem PySem.Spec PyProof.Rows L2

/-! ### a call that looks at objects of ours and gives flat data -/
mutual
def D.lv : D → Bool
  | .non => true
  | .bl _ => true
  | .int _ => true
  | .str _ => true
  | .tup xs => D.lvs xs
  | .lst _ => false
  | .scr _ => false
  | .dic _ _ _ => false
  | .obj _ _ => false
  | .fn _ _ => false
def D.lvs : List D → Bool
  | [] => true
  | d :: ds => D.lv d && D.lvs ds
end
def RV.lv : RV → Bool
  | .fro d => d.lv
  | .own (.lst ds) => D.lvs ds
  | _ => false
section
variable {K : PySem.W.Frag} {T : Tab} {π σ τ : L2.St} {F S S' H H' : Hp} {ρ ρ' : Env} {a : Addr} {v : V} {d : D} {r : RV} {vs : List V} {rs : List RV} {ds : List D}
mutual
theorem DR.lvTo (h : ∀ a vs, SqT K S a vs → SqT K S' a vs) : ∀ {v : V} {d : D}, DR K T S v d → d.lv = true → DR K T S' v d
  | _, _, .non, _ => .non
  | _, _, .bl b, _ => .bl b
  | _, _, .int i, _ => .int i
  | _, _, .str x, _ => .str x
  | _, _, .tup q r, e => .tup (h _ _ q) (DRs.lvTo h r (by rw [D.lv] at e; exact e))
  | _, _, .lst q r, e => by rw [D.lv] at e; cases e
  | _, _, .scr q, e => by rw [D.lv] at e; cases e
  | _, _, .obj _ _ _, e => by rw [D.lv] at e; cases e
  | _, _, .dic _ _ _ _, e => by rw [D.lv] at e; cases e
theorem DRs.lvTo (h : ∀ a vs, SqT K S a vs → SqT K S' a vs) : ∀ {vs : List V} {ds : List D}, DRs K T S vs ds → D.lvs ds = true → DRs K T S' vs ds
  | _, _, .nil, _ => .nil
  | _, _, .cons q r, e => by
    rw [D.lvs, Bool.and_eq_true] at e
    exact .cons (DR.lvTo h q e.1) (DRs.lvTo h r e.2)
end
/-- a stands in a slot of ours -/
def InSlot (ρ : Env) (σ : L2.St) (a : Addr) : Prop := ∃ (i : Nat) (c : Cell), ρ[i]? = some c ∧ c.mut = true ∧ σ[i]? = some (some (V.ref a))
open Classical in
/-- S, and all objects of ours -/
noncomputable def seen (S H : Hp) (ρ : Env) (σ : L2.St) : Hp := fun b => if InSlot ρ σ b then H b else S b
open Classical in
noncomputable def unseen (S : Hp) (ρ : Env) (σ : L2.St) : Hp := fun b => if InSlot ρ σ b then none else S b
theorem seen_in (h : InSlot ρ σ a) : seen S H ρ σ a = H a := if_pos h
theorem seen_out (h : ¬ InSlot ρ σ a) : seen S H ρ σ a = S a := if_neg h
theorem unseen_in (h : InSlot ρ σ a) : unseen S ρ σ a = none := if_pos h
theorem unseen_out (h : ¬ InSlot ρ σ a) : unseen S ρ σ a = S a := if_neg h
theorem Rel.inSlot (R : Rel K T π F S ρ σ H) (h : InSlot ρ σ a) : S a = none ∧ F a = none ∧ ∃ d, Node K T S H a d := by
  obtain ⟨i, c, hc, m, e⟩ := h
  have q := R.sl i c hc
  cases c with
  | un => cases m
  | fro _ => cases m
  | own d0 => obtain ⟨b, q1, q2⟩ := q; rw [e] at q1; cases q1; exact ⟨q2.1, q2.2.1, _, q2.2.2⟩
  | brw d0 => obtain ⟨b, q1, _, q2⟩ := q; rw [e] at q1; cases q1; exact ⟨q2.1, q2.2.1, _, q2.2.2⟩
theorem Rel.sameSeen (R : Rel K T π F S ρ σ H) : Same S (seen S H ρ σ) := fun b o e => by
  rw [seen_out fun z => by rw [(R.inSlot z).1] at e; cases e]; exact e
theorem Rel.look (R : Rel K T π F S ρ σ H) : Rel K T π F (seen S H ρ σ) (ρ.map fun _ => .un) σ H := by
  refine ⟨fun b o e => ?_, R.sF, fun b o e => ?_, fun b ps e => ?_, R.nF, R.tb, by rw [List.length_map]; exact R.len, fun i c hc => ?_, fun i j b ci cj hi hj mi mj ei ej => ?_⟩
  · by_cases h : InSlot ρ σ b
    · rw [seen_in h] at e; exact e
    · rw [seen_out h] at e; exact R.sS _ _ e
  · rw [seen_out fun z => by rw [(R.inSlot z).2.1] at e; cases e]; exact R.dj _ _ e
  · by_cases h : InSlot ρ σ b
    · rw [seen_in h] at e
      obtain ⟨_, _, d, n⟩ := R.inSlot h
      exact n.notab ps e
    · rw [seen_out h] at e; exact R.nS _ _ e
  · rw [List.getElem?_map] at hc
    cases q : ρ[i]? with
    | none => rw [q] at hc; cases hc
    | some x => rw [q] at hc; cases hc; trivial
  · rw [List.getElem?_map] at hi
    cases q : ρ[i]? with
    | none => rw [q] at hi; cases hi
    | some x => rw [q] at hi; cases hi; cases mi
theorem HeldAll.seen (R : Rel K T π F S ρ σ H) : ∀ {vs : List V} {rs : List RV} {ds : List D}, HeldAll K T S σ vs rs → derefs ρ rs = some ds → DRs K T (seen S H ρ σ) vs ds
  | _, _, _, .nil, e => by cases e; exact .nil
  | v :: vs, r :: rs, ds, .cons h q, e => by
    unfold derefs at e
    split at e
    · rename_i d ds' e1 e2
      cases e
      refine .cons ?_ (HeldAll.seen R q e2)
      cases r with
      | fro d' => cases e1; exact DR.mono R.sameSeen h
      | own d' => exact h.elim
      | bor i =>
        have h : σ[i]? = some (some v) := h
        unfold deref at e1
        cases hc : ρ[i]? with
        | none => simp [hc] at e1
        | some c =>
          have q := R.sl i c hc
          rw [h] at q
          cases c with
          | un => simp [hc] at e1
          | fro d' =>
            simp [hc] at e1; subst e1
            obtain ⟨x, h1, h2⟩ := q
            cases h1
            exact h2.mono R.sameSeen
          | own d' =>
            simp [hc] at e1; subst e1
            obtain ⟨a, h1, h2⟩ := q
            cases h1
            exact h2.2.2.froze R.sameSeen (seen_in ⟨i, _, hc, rfl, h⟩)
          | brw d' =>
            simp [hc] at e1; subst e1
            obtain ⟨a, h1, _, h2⟩ := q
            cases h1
            exact h2.2.2.froze R.sameSeen (seen_in ⟨i, _, hc, rfl, h⟩)
    · cases e
theorem Rel.unlook {cs' : List Cell} {ws : List V} (R : Rel K T π F S ρ σ H) (s : Same (Dt.seen S H ρ σ) S') (R' : Rel K T (ws.map some) (others (Dt.seen S H ρ σ) H fun _ => false) S' cs' (ws.map some) H') :
    Same S (unseen S' ρ σ) ∧ Rel K T π F (unseen S' ρ σ) ρ σ H' ∧ (∀ b vs, SqT K S' b vs → SqT K (unseen S' ρ σ) b vs) := by
  have tr : ∀ {b : Addr} {x : HO}, F b = some x → others (Dt.seen S H ρ σ) H (fun _ => false) b = some x := fun {b x} q => (others_of (R.look.dj _ _ q) rfl fun ps z => R.nF b ps (q.trans ((R.sF _ _ q).symm.trans z))).trans (R.sF _ _ q)
  have inS : ∀ {b : Addr}, InSlot ρ σ b → ∃ o, H b = some o ∧ S' b = some o ∧ H' b = some o := fun {b} h => by
    obtain ⟨_, _, d, n⟩ := R.inSlot h
    obtain ⟨o, ho⟩ := n.there
    have e : S' b = some o := s _ _ ((seen_in h).trans ho)
    exact ⟨o, ho, e, R'.sS _ _ e⟩
  have s1 : Same S (unseen S' ρ σ) := fun b o e => by
    have n : ¬ InSlot ρ σ b := fun z => by rw [(R.inSlot z).1] at e; cases e
    rw [unseen_out n]
    exact s _ _ ((seen_out n).trans e)
  refine ⟨s1, R.step s1 (fun b o e => ?_) (fun b x q => R'.sF _ _ (tr q)) (fun b x q => ?_) (fun b ps e => ?_) R'.tb (fun i c b hc m e => ?_), fun b xs h => ?_⟩
  · by_cases h : InSlot ρ σ b
    · rw [unseen_in h] at e; cases e
    · rw [unseen_out h] at e; exact R'.sS _ _ e
  · by_cases h : InSlot ρ σ b
    · exact unseen_in h
    · rw [unseen_out h]; exact R'.dj _ _ (tr q)
  · by_cases h : InSlot ρ σ b
    · rw [unseen_in h] at e; cases e
    · rw [unseen_out h] at e; exact R'.nS _ _ e
  · have h : InSlot ρ σ b := ⟨i, c, hc, m, e⟩
    obtain ⟨o, h1, _, h3⟩ := inS h
    exact ⟨h3.trans h1.symm, unseen_in h⟩
  · by_cases n : InSlot ρ σ b
    · obtain ⟨o, h1, h2, _⟩ := inS n
      obtain ⟨_, _, d, nd⟩ := R.inSlot n
      have bad : ∀ u : HO, S' b = some u → (∀ ys, u ≠ .lst ys) → (∀ C dx fs, u ≠ .ins C dx fs) → (∀ bb kw ks ws, ¬ DicH bb b u kw ks ws) → False := fun u e n1 n2 n3 => by
        rw [h2] at e
        cases e
        cases d <;> first | exact nd.elim | skip
        · obtain ⟨ys, z, _⟩ := nd; rw [h1] at z; cases z; exact n1 _ rfl
        · obtain ⟨u, kw, ws, z, q, _⟩ := nd; rw [h1] at z; cases z; exact n3 _ _ _ _ q
        · obtain ⟨dx, fs, z, _⟩ := nd; rw [h1] at z; cases z; exact n2 _ _ _ rfl
      rcases h with (h | ⟨o, h⟩) | h
      · exact (bad _ h (fun _ z => nomatch z) (fun _ _ _ z => nomatch z) (fun _ _ _ _ z => nomatch z)).elim
      · exact (bad _ h (fun _ z => nomatch z) (fun _ _ _ z => nomatch z) (fun _ _ _ _ z => nomatch z)).elim
      · exact .inr h
    · rcases h with (h | ⟨o, h⟩) | h
      · exact .inl (.inl ((unseen_out n).trans h))
      · exact .inl (.inr ⟨o, (unseen_out n).trans h⟩)
      · exact .inr h
end
def eCallV (f : Fm) (g : AF) : EF := fun ρ => (g ρ).bind fun p => (Res.of (derefs p.2 p.1)).bind fun ds => (f (ds.map .fro)).bind fun q => (Res.need q.1.lv).bind fun _ => .ok (q.1, p.2)
section
variable {X : Cx} {T : Tab} {CX : CXT} {k : Nat} {f : Addr} {fd : FuncData} {ps : List Str} {E : XK} {x m : Str} {p pos apos : Pos} {e o : Expr} {es : List Expr} {ff : Fm} {g : AF}
theorem callV_run {K : PySem.W.Frag} {σ : L2.St} {H : Hp} {Q : VK} (h : SE K T (eCallV ff g) σ H Q) : tCall (SpF K T ff) [] E (SA K T g) σ H Q := by
  obtain ⟨π, F, S, ρ, r, ρ', R, e, q⟩ := h
  obtain ⟨⟨rs, ρ1⟩, e1, e⟩ := Res.bind_eq e
  obtain ⟨ds, e2, e⟩ := Res.bind_eq e
  obtain ⟨⟨r', cs'⟩, e3, e⟩ := Res.bind_eq e
  obtain ⟨_, e4, e⟩ := Res.bind_eq e
  cases e
  have fl := Res.need_eq e4
  refine ⟨π, F, S, ρ, rs, ρ1, R, e1, fun S1 H1 vs s1 R1 hv => ?_⟩
  show SpF K T ff (vs ++ []) H1 Q E
  rw [List.append_nil]
  have hd := hv.seen R1 (Res.of_eq e2)
  refine ⟨_, _, _, _, _, rel_fros R1.look hd, e3, by
    cases r' with
    | bor i => cases fl
    | fro d => rfl
    | own d => rfl, fun S' H' v s' R' rv => ?_⟩
  obtain ⟨s2, R2, sq⟩ := R1.unlook s' R'
  refine q _ H' v (s1.trans s2) R2 ?_
  cases r' with
  | bor i => cases fl
  | fro d => exact DR.lvTo sq rv fl
  | own d =>
    obtain ⟨a, rfl, o, ap⟩ := rv
    cases d <;> first | (cases fl; done) | skip
    rename_i xs
    obtain ⟨ws, n1, n2⟩ := o.2.2
    have nIn : ¬ InSlot ρ1 σ a := fun z => by
      obtain ⟨_, _, d, n⟩ := R1.inSlot z
      obtain ⟨u, hu⟩ := n.there
      have := s' _ _ ((seen_in z).trans hu)
      rw [o.1] at this; cases this
    refine ⟨a, rfl, ⟨(unseen_out nIn).trans o.1, ?_, ws, n1, n2.lvTo sq fl⟩, fun i c hc m z => nIn ⟨i, c, hc, m, z⟩⟩
    cases hF : F a with
    | none => rfl
    | some y =>
      have := (others_of (P := fun _ => false) (R1.look.dj _ _ hF) rfl fun ps z => R1.nF a ps (hF.trans ((R1.sF _ _ hF).symm.trans z))).trans (R1.sF _ _ hF)
      rw [o.2.1] at this; cases this
theorem ee_callV (G : FnOk X.prog X.w X.K X.mg X.base CX k f fd ps (SpF X.K T ff)) (hr : Room k X.A) (hg : Gl X x) (hm : X.mg x = some (.ref f)) (hk : PySem.W.keepIn X.K (.ref f) = true) (hb : Binds X.K fd ps []) (hx : Passes CX X E)
    (ha : PA X (e :: es) (SA X.K T g)) (hdb : (x == ("__debug__" : Str)) = false := by decide) (he : starEach (e :: es) X.env = (false, eval e X.env) :: starEach es X.env := by rfl) (hpl : (backTo pos (starEach es X.env)).any (·.1) = false := by rfl) :
    PE X (.Call (.Name x p) (e :: es) [] pos) (SE X.K T (eCallV ff g)) := (pe_call G hr hg hm hk hb .nil hx ha hdb he hpl).imp fun _ _ _ q => callV_run q
end
end Dt
end

section
set_option Elab.async false
set_option linter.all false
set_option maxRecDepth 100000
set_option maxHeartbeats 4000000
set_option autoImplicit false
namespace Dt
open PySem PySem.Spec PyProof.Rows L2

/-! ### dicts: keys ints and texts (false), or tuples (true) -/
def keqB : D → D → Bool
  | .int i, .int j => decide (i = j)
  | .str x, .str y => decide (x = y)
  | _, _ => false
def keqN (a b : D) : Bool := match dkey a, dkey b with
  | some x, some y => NestedKey.beq x y
  | _, _ => false
def keq : Bool → D → D → Bool
  | false, a, b => keqB a b
  | true, a, b => keqN a b
def keyOf : D → Option Key
  | .int i => some (.inl i)
  | .str x => some (.inr x)
  | _ => none
/-- what may be looked up -/
def okKey : Bool → D → Bool
  | false, d => (keyOf d).isSome
  | true, .tup xs => match dkeys xs with
    | some ks => decide (NestedKey.depthAll ks + 1 ≤ 8)
    | none => false
  | true, _ => false
def dFind (b : Bool) (ks vs : List D) (k : D) : Option D := ((ks.zip vs).find? fun p => keq b p.1 k).map (·.2)
def dHas (b : Bool) (ks : List D) (k : D) : Bool := ks.any fun j => keq b j k
def dPut (b : Bool) (ks vs : List D) (k x : D) : List D × List D := if dHas b ks k then (ks, List.zipWith (fun j v => if keq b j k then x else v) ks vs) else (ks ++ [k], vs ++ [x])
section
variable {K : PySem.W.Frag} {T : Tab} {S : Hp} {κ : Type} [DecidableEq κ] {kr : κ → D → Prop} {b : Bool}
theorem dFind_rel (he : ∀ i d j e, kr i d → kr j e → keq b d e = decide (i = j)) {k : κ} {e : D} (hk : kr k e) : ∀ {kvs : List (κ × V)} {ks vs : List D}, Paired kr (kvs.map (·.1)) ks → DRs K T S (kvs.map (·.2)) vs →
    (valV kvs k = none ∧ dFind b ks vs e = none) ∨ ∃ v d, valV kvs k = some v ∧ dFind b ks vs e = some d ∧ DR K T S v d
  | [], _, _, .nil, .nil => .inl ⟨rfl, rfl⟩
  | p :: kvs, _, _, .cons (b := j) (l₂ := ks) hj hr, .cons (d := d) (ds := vs) h r => by
    have q : dFind b (j :: ks) (d :: vs) e = if decide (p.1 = k) = true then some d else dFind b ks vs e := by
      unfold dFind
      rw [List.zip_cons_cons, List.find?_cons, ← he _ _ _ _ hj hk]
      cases keq b j e <;> rfl
    rw [q]
    by_cases z : p.1 = k
    · rw [if_pos (decide_eq_true z), valV_pos z]
      exact .inr ⟨_, d, rfl, rfl, h⟩
    · rw [if_neg (by simpa using z), valV_neg z]
      exact dFind_rel he hk hr r
theorem dHas_rel (he : ∀ i d j e, kr i d → kr j e → keq b d e = decide (i = j)) {k : κ} {e : D} (hk : kr k e) : ∀ {kvs : List (κ × V)} {ks : List D}, Paired kr (kvs.map (·.1)) ks → dHas b ks e = kvs.any fun kv => decide (kv.1 = k)
  | [], _, .nil => rfl
  | p :: kvs, _, .cons (b := j) (l₂ := ks) hj hr => by
    show (keq b j e || dHas b ks e) = (decide (p.1 = k) || kvs.any fun kv => decide (kv.1 = k))
    rw [he _ _ _ _ hj hk, dHas_rel he hk hr]
theorem dRepl_rel (he : ∀ i d j e, kr i d → kr j e → keq b d e = decide (i = j)) {k : κ} {e : D} (hk : kr k e) {v : V} {x : D} (hx : DR K T S v x) : ∀ {kvs : List (κ × V)} {ks vs : List D}, Paired kr (kvs.map (·.1)) ks → DRs K T S (kvs.map (·.2)) vs →
    DRs K T S ((kvs.map fun kv => if kv.1 = k then (kv.1, v) else kv).map (·.2)) (List.zipWith (fun j d => if keq b j e then x else d) ks vs)
  | [], _, _, .nil, .nil => .nil
  | p :: kvs, _, _, .cons (b := j) (l₂ := ks) hj hr, .cons (d := d) (ds := vs) h r => by
    have ih := dRepl_rel he hk hx hr r
    have q := he _ _ _ _ hj hk
    by_cases z : p.1 = k
    · have q' : keq b j e = true := q.trans (decide_eq_true z)
      simp only [List.map_cons, List.zipWith_cons_cons, if_pos z, q', if_true]
      exact .cons hx ih
    · have q' : keq b j e = false := q.trans (decide_eq_false z)
      simp only [List.map_cons, List.zipWith_cons_cons, if_neg z, q']
      exact .cons h ih
theorem keys_repl (k : κ) (v : V) : ∀ kvs : List (κ × V), (kvs.map fun kv => if kv.1 = k then (kv.1, v) else kv).map (·.1) = kvs.map (·.1)
  | [] => rfl
  | p :: kvs => by
    rw [List.map_cons, List.map_cons, List.map_cons, keys_repl k v kvs]
    by_cases z : p.1 = k
    · rw [if_pos z]
    · rw [if_neg z]
theorem Paired.snoc' {α β : Type} {R : α → β → Prop} : ∀ {l : List α} {m : List β} {a : α} {b : β}, Paired R l m → R a b → Paired R (l ++ [a]) (m ++ [b])
  | _, _, _, _, .nil, h => .cons h .nil
  | _, _, _, _, .cons r t, h => .cons r (Paired.snoc' t h)
theorem dPut_rel (he : ∀ i d j e, kr i d → kr j e → keq b d e = decide (i = j)) {k : κ} {e : D} (hk : kr k e) {v : V} {x : D} (hx : DR K T S v x) {kvs : List (κ × V)} {ks vs : List D} (hp : Paired kr (kvs.map (·.1)) ks) (h : DRs K T S (kvs.map (·.2)) vs) :
    Paired kr ((putK kvs k v).map (·.1)) (dPut b ks vs e x).1 ∧ DRs K T S ((putK kvs k v).map (·.2)) (dPut b ks vs e x).2 := by
  unfold dPut putK
  rw [dHas_rel he hk hp]
  by_cases z : (kvs.any fun kv => decide (kv.1 = k)) = true
  · rw [if_pos z, if_pos z]
    refine ⟨?_, dRepl_rel he hk hx hp h⟩
    rw [keys_repl]; exact hp
  · rw [if_neg z, if_neg z, List.map_append, List.map_append]
    exact ⟨Paired.snoc' hp hk, h.append (.one hx)⟩
end
/-- int and text keys -/
def krK (k : Key) (d : D) : Prop := d = keyD k
theorem keyOf_eq {d : D} {k : Key} (h : keyOf d = some k) : krK k d := by
  unfold krK
  cases d <;> first | (cases h; done) | (cases h; rfl)
theorem heK (i : Key) (d : D) (j : Key) (e : D) (h1 : krK i d) (h2 : krK j e) : keq false d e = decide (i = j) := by
  cases h1; cases h2
  cases i <;> cases j <;> simp [keq, keqB, keyD]
theorem krK_keys : ∀ kvs : List (Key × V), Paired krK (kvs.map (·.1)) (kvs.map fun p => keyD p.1)
  | [] => .nil
  | _ :: kvs => .cons rfl (krK_keys kvs)
theorem krK_eq : ∀ {js : List Key} {ks : List D}, Paired krK js ks → ks = js.map keyD
  | _, _, .nil => rfl
  | _, _, .cons h r => by rw [List.map_cons, ← krK_eq r, ← h]
/-- tuples -/
def krN (k : NestedKey) (d : D) : Prop := dkey d = some k
theorem heN (i : NestedKey) (d : D) (j : NestedKey) (e : D) (h1 : krN i d) (h2 : krN j e) : keq true d e = decide (i = j) := by
  unfold krN at h1 h2
  show keqN d e = _
  unfold keqN
  rw [h1, h2, NestedKey.decide_eq]
theorem krN_keys : ∀ {js : List NestedKey} {ks : List D}, ks.map dkey = js.map some → Paired krN js ks
  | [], [], _ => .nil
  | j :: js, k :: ks, h => by
    rw [List.map_cons, List.map_cons] at h
    injection h with h1 h2
    exact .cons h1 (krN_keys h2)
  | [], _ :: _, h => by cases h
  | _ :: _, [], h => by cases h
theorem krN_eq : ∀ {js : List NestedKey} {ks : List D}, Paired krN js ks → ks.map dkey = js.map some
  | _, _, .nil => rfl
  | _, _, .cons h r => by rw [List.map_cons, List.map_cons, krN_eq r, show dkey _ = _ from h]

/-! ### the entries of a dict with tuples as keys -/
def prs (kvs : List (NestedKey × Addr × V)) : List (NestedKey × V) := kvs.map fun p => (p.1, p.2.2)
def putN (kvs : List (NestedKey × Addr × V)) (k : NestedKey) (a : Addr) (v : V) : List (NestedKey × Addr × V) := if (kvs.any fun kv => decide (kv.1 = k)) = true then kvs.map (fun kv => if kv.1 = k then (kv.1, kv.2.1, v) else kv) else kvs ++ [(k, a, v)]
abbrev KN : List (NestedKey × Addr × V) → List (NestedKey × Addr × Value) → Prop := Paired fun p q => p.1 = q.1 ∧ p.2.1 = q.2.1 ∧ RelV p.2.2 q.2.2
theorem prs_keys (kvs : List (NestedKey × Addr × V)) : (prs kvs).map (·.1) = kvs.map (·.1) := by unfold prs; rw [List.map_map]; rfl
theorem prs_vals (kvs : List (NestedKey × Addr × V)) : (prs kvs).map (·.2) = kvs.map (·.2.2) := by unfold prs; rw [List.map_map]; rfl
theorem any_prs (kvs : List (NestedKey × Addr × V)) (k : NestedKey) : ((prs kvs).any fun kv => decide (kv.1 = k)) = kvs.any fun kv => decide (kv.1 = k) := by unfold prs; rw [List.any_map]; rfl
theorem prs_put (kvs : List (NestedKey × Addr × V)) (k : NestedKey) (a : Addr) (v : V) : prs (putN kvs k a v) = putK (prs kvs) k v := by
  unfold putN putK
  rw [any_prs]
  split
  · unfold prs
    rw [List.map_map, List.map_map]
    refine List.map_congr_left fun p _ => ?_
    by_cases h : p.1 = k <;> simp [h]
  · simp [prs]
theorem KN.find {kvs : List (NestedKey × Addr × V)} {xs : List (NestedKey × Addr × Value)} (r : KN kvs xs) (k : NestedKey) : RelO (valV (prs kvs) k) ((atKey xs k).map (·.2)) := by
  induction r with
  | nil => exact True.intro
  | @cons p q ps qs h t ih =>
    obtain ⟨h1, h2, h3⟩ := h
    by_cases e : p.1 = k
    · have a : valV (prs (p :: ps)) k = some p.2.2 := valV_pos (p := (p.1, p.2.2)) e
      have b : (atKey (q :: qs) k).map (·.2) = some q.2.2 := by simp [atKey, List.find?_cons, h1.symm.trans e]
      rw [a, b]; exact h3
    · have a : valV (prs (p :: ps)) k = valV (prs ps) k := valV_neg (p := (p.1, p.2.2)) e
      have n : ¬ q.1 = k := fun z => e (h1.trans z)
      have b : (atKey (q :: qs) k).map (·.2) = (atKey qs k).map (·.2) := by simp [atKey, List.find?_cons, n]
      rw [a, b]; exact ih
theorem KN.any {kvs : List (NestedKey × Addr × V)} {xs : List (NestedKey × Addr × Value)} (r : KN kvs xs) (k : NestedKey) : (kvs.any fun kv => decide (kv.1 = k)) = (atKey xs k).isSome := by
  have h := (r.find k).isSome_eq
  rw [Option.isSome_map] at h
  rw [← h, ← valV_any, any_prs]
theorem KN.put {kvs : List (NestedKey × Addr × V)} {xs : List (NestedKey × Addr × Value)} (r : KN kvs xs) (k : NestedKey) (a : Addr) {v : V} {u : Value} (rv : RelV v u) : KN (putN kvs k a v) (storedH xs k a u) := by
  unfold putN storedH
  rw [r.any k]
  split
  · rename_i hz
    clear hz
    unfold KN at r ⊢
    induction r with
    | nil => exact .nil
    | @cons p q ps qs h t ih =>
      obtain ⟨h1, h2, h3⟩ := h
      rw [List.map_cons, List.map_cons]
      refine .cons ?_ ih
      by_cases e : p.1 = k
      · rw [if_pos e, putAt, if_pos (h1.symm.trans e)]; exact ⟨h1, h2, rv⟩
      · rw [if_neg e, putAt, if_neg fun z => e (h1.trans z)]; exact ⟨h1, h2, h3⟩
  · exact Paired.snoc' r ⟨rfl, rfl, rv⟩
theorem KN.length {kvs : List (NestedKey × Addr × V)} {xs : List (NestedKey × Addr × Value)} (r : KN kvs xs) : kvs.length = xs.length := Paired.length r
theorem KN.keys {kvs : List (NestedKey × Addr × V)} {xs : List (NestedKey × Addr × Value)} (r : KN kvs xs) : kvs.map (·.1) = xs.map (·.1) ∧ kvs.map (fun p => Value.ref p.2.1) = xs.map (fun p => Value.ref p.2.1) := by
  induction r with
  | nil => exact ⟨rfl, rfl⟩
  | cons h t ih => exact ⟨by rw [List.map_cons, List.map_cons, ih.1, h.1], by rw [List.map_cons, List.map_cons, ih.2, h.2.1]⟩
theorem putN_addr (kvs : List (NestedKey × Addr × V)) (k : NestedKey) (a : Addr) (v : V) : (putN kvs k a v).map (fun p => V.ref p.2.1) = if (kvs.any fun kv => decide (kv.1 = k)) = true then kvs.map (fun p => V.ref p.2.1) else kvs.map (fun p => V.ref p.2.1) ++ [V.ref a] := by
  unfold putN
  split
  · rw [List.map_map]
    refine List.map_congr_left fun p _ => ?_
    by_cases h : p.1 = k <;> simp [h]
  · simp
theorem putN_le (kvs : List (NestedKey × Addr × V)) (k : NestedKey) (a : Addr) (v : V) : (putN kvs k a v).length ≤ kvs.length + 1 := by
  unfold putN
  split <;> simp
theorem putN_keys (kvs : List (NestedKey × Addr × V)) (k : NestedKey) (a : Addr) (v : V) : (putN kvs k a v).map (·.1) = (putK (prs kvs) k v).map (·.1) := by
  rw [← prs_put, prs_keys]

/-! ### a key in the heap -/
section
variable {X : Cx} {T : Tab} {pins : List (Addr × Obj)} {σ : L2.St} {H : Hp} {s : Shared}
mutual
theorem DR.nested (I : Inv X pins σ H s) : ∀ {v : V} {d : D} {k : NestedKey} {u : Value}, DR X.K T H v d → dkey d = some k → RelV v u → NestedIs s.heap k u
  | _, _, _, _, .non, e, r => by rw [dkey] at e; cases e; cases r; exact .none
  | _, _, _, _, .bl b, e, r => by rw [dkey] at e; cases e; cases r; exact .bool rfl
  | _, _, _, _, .int i, e, r => by rw [dkey] at e; cases e; obtain ⟨t, rfl⟩ := r; exact .int _ _
  | _, _, _, _, .str _, e, _ => by rw [dkey] at e; cases e
  | _, _, _, _, .tup h q, e, r => by
    rw [dkey] at e
    obtain ⟨ks, e1, rfl⟩ := Option.map_eq_some_iff.mp e
    cases r
    obtain ⟨its, rv, ⟨o, ho, hc, n, hd⟩, _⟩ := I.tuple h
    exact .tup ho hc hd (DRs.nested I q e1 rv)
  | _, _, _, _, .lst _ _, e, _ => by rw [dkey] at e; cases e
  | _, _, _, _, .scr _, e, _ => by rw [dkey] at e; cases e
  | _, _, _, _, .obj _ _ _, e, _ => by rw [dkey] at e; cases e
  | _, _, _, _, .dic _ _ _ _, e, _ => by rw [dkey] at e; cases e
theorem DRs.nested (I : Inv X pins σ H s) : ∀ {vs : List V} {ds : List D} {ks : List NestedKey} {us : List Value}, DRs X.K T H vs ds → dkeys ds = some ks → Vals vs us → NestedAll s.heap ks us
  | _, _, _, _, .nil, e, r => by rw [dkeys] at e; cases e; cases r; exact .nil
  | _, _, _, _, .cons h q, e, r => by
    rw [dkeys] at e
    split at e
    · rename_i k ks e1 e2
      cases e
      cases r with
      | cons r1 r2 => exact .cons (DR.nested I h e1 r1) (DRs.nested I q e2 r2)
    · cases e
end
theorem keys_are (I : Inv X pins σ H s) : ∀ {kvs : List (NestedKey × Addr × V)} {xs : List (NestedKey × Addr × Value)} {ks : List D}, KN kvs xs → DRs X.K T H (kvs.map fun p => V.ref p.2.1) ks → ks.map dkey = kvs.map (fun p => some p.1) →
    (∀ p ∈ kvs, p.1.depth ≤ 8) → ∀ x ∈ xs, (nestedKind X.prog X.w).is s.heap x.1 x.2.1
  | _, _, _, .nil, _, _, _ => fun x hx => by cases hx
  | p :: kvs, q :: xs, _, .cons h r, .cons (d := d) (ds := ks) hd hr, e, h8 => fun x hx => by
    rw [List.map_cons, List.map_cons] at e
    injection e with e1 e2
    rcases List.mem_cons.mp hx with z | hx
    · subst z
      obtain ⟨h1, h2, _⟩ := h
      refine ⟨?_, ?_⟩
      · rw [← h1, ← h2]
        exact DR.nested I hd e1 rfl
      · rw [← h1]; exact h8 p (List.mem_cons_self ..)
    · exact keys_are I r hr e2 (fun p hp => h8 p (List.mem_cons_of_mem _ hp)) x hx
/-- the dict as the library says it -/
theorem dicN_at (I : Inv X pins σ H s) {a : Addr} {kvs : List (NestedKey × Addr × V)} {ks : List D} (e : H a = some (DicO a kvs)) (hk : DRs X.K T H (kvs.map fun p => V.ref p.2.1) ks) (hd : ks.map dkey = kvs.map (fun p => some p.1))
    (h8 : ∀ p ∈ kvs, p.1.depth ≤ 8) (nd : (kvs.map (·.1)).Nodup) : ∃ xs, KN kvs xs ∧ s.heap.DictOfH (nestedKind X.prog X.w) a xs := by
  obtain ⟨⟨o, es, ep, xs, ho, hx, hdt, he, hp⟩, _⟩ := (show ObjOk X.prog X.w H s.heap a (DicO a kvs) from I.hok a _ e)
  refine ⟨xs, hp, o, es, ep, ho, hx, hdt, he X.w, keys_are I hp hk hd h8, ?_⟩
  rw [← (KN.keys hp).1]; exact nd
theorem dicN_ok {P : Program} {w : World} {H' : Hp} {h' : Heap} {a : Addr} {kvs : List (NestedKey × Addr × V)} {xs : List (NestedKey × Addr × Value)} (hp : KN kvs xs) (hf : ∀ p ∈ kvs, nkFree p.1 = true) (dd : h'.DictOfH (nestedKind P w) a xs) : ObjOk P w H' h' a (DicO a kvs) := by
  obtain ⟨o, es, ep, ho, hx, hdt, he, _, _⟩ := dd
  refine ⟨⟨o, es, ep, xs, ho, hx, hdt, fun w' => ?_, hp⟩, ⟨o, ho⟩, fun h1 h2 ⟨o, es, ep, xs, g1, g2⟩ k => ⟨o, es, ep, xs, k _ g1, g2⟩⟩
  rw [he]
  refine List.map_congr_left fun x hx => ?_
  have : nkFree x.1 = true := by
    have e := (KN.keys hp).1
    have : x.1 ∈ kvs.map (·.1) := e ▸ List.mem_map.mpr ⟨x, hx, rfl⟩
    obtain ⟨p, hp', e2⟩ := List.mem_map.mp this
    rw [← e2]; exact hf p hp'
  show DictEntry.mk (x.1.hash w) _ _ = _
  rw [hash_free w w' this]
theorem keys_free {kvs : List (NestedKey × Addr × V)} {ks : List D} (hd : ks.map dkey = kvs.map (fun p => some p.1)) : ∀ p ∈ kvs, nkFree p.1 = true := fun p hp => by
  have : some p.1 ∈ ks.map dkey := by rw [hd]; exact List.mem_map.mpr ⟨p, hp, rfl⟩
  obtain ⟨d, _, e⟩ := List.mem_map.mp this
  exact dkey_free e
end
end Dt
end

section
set_option Elab.async false
set_option linter.all false
set_option maxRecDepth 100000
set_option maxHeartbeats 4000000
set_option autoImplicit false
namespace Dt
open PySem PySem.Spec PyProof.Rows L2

structure NDic (K : PySem.W.Frag) (T : Tab) (H : Hp) (a : Addr) (kvs : List (NestedKey × Addr × V)) (ks : List D) : Prop where
  at_ : H a = some (DicO a kvs)
  dr : DRs K T H (kvs.map fun p => V.ref p.2.1) ks
  dk : ks.map dkey = kvs.map fun p => some p.1
  d8 : ∀ p ∈ kvs, p.1.depth ≤ 8
  nd : (kvs.map (·.1)).Nodup
  sz : kvs.length ≤ sizeLine
  sy : (a == sysModules) = false
theorem NDic.pair {K : PySem.W.Frag} {T : Tab} {H : Hp} {a : Addr} {kvs : List (NestedKey × Addr × V)} {ks : List D} (h : NDic K T H a kvs ks) : Paired krN ((prs kvs).map (·.1)) ks := by
  rw [prs_keys]
  exact krN_keys (by rw [List.map_map]; exact h.dk)
theorem DicH.K {a : Addr} {o : HO} {kw : List V} {ks : List D} {ws : List V} (h : DicH false a o kw ks ws) : ∃ kvs : List (Key × V), o = .dK kvs ∧ ks = kvs.map (fun p => keyD p.1) ∧ ws = kvs.map (·.2) ∧ kw = kvs.map (fun p => kV p.1) := by
  cases h with
  | k _ kvs => exact ⟨kvs, rfl, rfl, rfl, rfl⟩
theorem DicH.N {a : Addr} {o : HO} {kw : List V} {ks : List D} {ws : List V} (h : DicH true a o kw ks ws) : ∃ kvs : List (NestedKey × Addr × V), o = DicO a kvs ∧ kw = kvs.map (fun p => V.ref p.2.1) ∧ ws = kvs.map (·.2.2) ∧ ks.map dkey = kvs.map (fun p => some p.1) ∧ (∀ p ∈ kvs, p.1.depth ≤ 8) ∧
    (kvs.map (·.1)).Nodup ∧ kvs.length ≤ sizeLine ∧ (a == sysModules) = false := by
  cases h with
  | n _ kvs _ h1 h2 h3 h4 h5 => exact ⟨kvs, rfl, rfl, rfl, h1, h2, h3, h4, h5⟩
section
variable {K : PySem.W.Frag} {T : Tab} {S H : Hp} {v : V} {d : D}
theorem DRs.toH (sS : Same S H) {vs : List V} {ds : List D} (h : DRs K T S vs ds) : DRs K T H vs ds := DRs.mono sS h
theorem RD.dicK (sS : Same S H) {ks vs : List D} (h : RD K T S H v (.dic false ks vs)) : ∃ (a : Addr) (kvs : List (Key × V)), v = .ref a ∧ H a = some (.dK kvs) ∧ ks = kvs.map (fun p => keyD p.1) ∧ DRs K T S (kvs.map (·.2)) vs := by
  obtain ⟨a, o, kw, ws, rfl, h1, h2, h3, h4⟩ := h.dic sS
  obtain ⟨kvs, rfl, rfl, rfl, rfl⟩ := h2.K
  exact ⟨a, kvs, rfl, h1, rfl, h4⟩
theorem RD.dicN (sS : Same S H) {ks vs : List D} (h : RD K T S H v (.dic true ks vs)) : ∃ (a : Addr) (kvs : List (NestedKey × Addr × V)), v = .ref a ∧ NDic K T H a kvs ks ∧ DRs K T S (kvs.map fun p => V.ref p.2.1) ks ∧ DRs K T S (kvs.map (·.2.2)) vs := by
  obtain ⟨a, o, kw, ws, rfl, h1, h2, h3, h4⟩ := h.dic sS
  obtain ⟨kvs, rfl, rfl, rfl, q1, q2, q3, q4, q5⟩ := h2.N
  exact ⟨a, kvs, rfl, ⟨h1, h3.toH sS, q1, q2, q3, q4, q5⟩, h3, h4⟩
theorem keyV {k : Key} (h : RD K T S H v d) (e : keyOf d = some k) : v = kV k := by
  cases d <;> first | (cases e; done) | skip
  · cases e; exact h.int
  · cases e; exact h.str
/-- a key that is a tuple -/
theorem keyN (sS : Same S H) (h : RD K T S H v d) (e : okKey true d = true) : ∃ (b : Addr) (k : NestedKey), v = .ref b ∧ DR K T H (.ref b) d ∧ dkey d = some k ∧ k.depth ≤ 8 := by
  cases d <;> first | (cases e; done) | skip
  rename_i xs
  have e : (match dkeys xs with
    | some ks => decide (NestedKey.depthAll ks + 1 ≤ 8)
    | none => false) = true := e
  split at e
  · rename_i ks e1
    have h := h.all sS
    cases h with
    | @tup b vs _ hq hr =>
      refine ⟨b, .tup ks, rfl, .tup hq hr, by rw [dkey, e1]; rfl, ?_⟩
      rw [NestedKey.depth]
      exact of_decide_eq_true e
  · cases e
end

/-! ### readings -/
section
variable (K : PySem.W.Frag) (T : Tab)
def rNKey (y : V) (H : Hp) (k : NestedKey) (b : Addr) : Prop := ∃ d, y = .ref b ∧ DR K T H (.ref b) d ∧ dkey d = some k ∧ k.depth ≤ 8
def rNGet : R2 := fun x y H Q => ∃ (a b : Addr) (kvs : List (NestedKey × Addr × V)) (ks : List D) (k : NestedKey) (v : V), x = .ref a ∧ NDic K T H a kvs ks ∧ rNKey K T y H k b ∧ valV (prs kvs) k = some v ∧ Q v H
def rNIn (neg : Bool) : R2 := fun y x H Q => ∃ (a b : Addr) (kvs : List (NestedKey × Addr × V)) (ks : List D) (k : NestedKey), x = .ref a ∧ NDic K T H a kvs ks ∧ rNKey K T y H k b ∧ Q (.bl (neg.xor (valV (prs kvs) k).isSome)) H
def rKGet : R2 := fun x y H Q => ∃ a v, x = .ref a ∧ DGet H a y (some v) ∧ Q v H
def rKIn (neg : Bool) : R2 := fun y x H Q => ∃ a o, x = .ref a ∧ DGet H a y o ∧ Q (.bl (neg.xor o.isSome)) H
def rDGet : R2 := fun x y H Q => rKGet x y H Q ∨ rNGet K T x y H Q
def rDIn (neg : Bool) : R2 := fun x y H Q => rKIn neg x y H Q ∨ rNIn K T neg x y H Q
def rDLen : List V → Hp → VK → Prop := fun xs H Q => (∃ a kvs, xs = [V.ref a] ∧ H a = some (.dK kvs) ∧ Q (.int kvs.length) H) ∨ ∃ (a : Addr) (kvs : List (NestedKey × Addr × V)) (ks : List D), xs = [.ref a] ∧ NDic K T H a kvs ks ∧ Q (.int kvs.length) H
end
def eDNew (b : Bool) : EF := fun ρ => .ok (.own (.dic b [] []), ρ)
def oDGet : D → D → Res RV := fun d k => match d with
  | .dic b ks vs => (Res.need (okKey b k)).bind fun _ => (Res.of (dFind b ks vs k)).bind fun x => .ok (.fro x)
  | _ => .bad
def oDIn (neg : Bool) : D → D → Res RV := fun k d => match d with
  | .dic b ks vs => (Res.need (okKey b k)).bind fun _ => .ok (.fro (.bl (neg.xor (dFind b ks vs k).isSome)))
  | _ => .bad
def oDLen : D → Res RV := fun d => match d with
  | .dic _ ks _ => .ok (.fro (.int ks.length))
  | _ => .bad
section
variable {K : PySem.W.Frag} {T : Tab}
theorem findK {S H : Hp} {x y : V} {ks vs : List D} {k : D} (sS : Same S H) (hx : RD K T S H x (.dic false ks vs)) (hy : RD K T S H y k) (e : okKey false k = true) :
    ∃ a o, x = .ref a ∧ DGet H a y o ∧ ((o = none ∧ dFind false ks vs k = none) ∨ ∃ v d, o = some v ∧ dFind false ks vs k = some d ∧ DR K T S v d) := by
  obtain ⟨a, kvs, rfl, h1, rfl, h3⟩ := hx.dicK sS
  obtain ⟨key, ek⟩ := Option.isSome_iff_exists.mp (show (keyOf k).isSome = true from e)
  have ey := keyV hy ek
  subst ey
  refine ⟨a, valV kvs key, rfl, DGet.k h1, ?_⟩
  rcases dFind_rel heK (keyOf_eq ek) (krK_keys kvs) h3 with ⟨q1, q2⟩ | ⟨v, d, q1, q2, q3⟩
  · exact .inl ⟨q1, q2⟩
  · exact .inr ⟨v, d, q1, q2, q3⟩
theorem findN {S H : Hp} {x y : V} {ks vs : List D} {k : D} (sS : Same S H) (hx : RD K T S H x (.dic true ks vs)) (hy : RD K T S H y k) (e : okKey true k = true) :
    ∃ (a b : Addr) (kvs : List (NestedKey × Addr × V)) (key : NestedKey), x = .ref a ∧ NDic K T H a kvs ks ∧ rNKey K T y H key b ∧ ((valV (prs kvs) key = none ∧ dFind true ks vs k = none) ∨ ∃ v d, valV (prs kvs) key = some v ∧ dFind true ks vs k = some d ∧ DR K T S v d) := by
  obtain ⟨a, kvs, rfl, h1, h2, h3⟩ := hx.dicN sS
  obtain ⟨b, key, rfl, g1, g2, g3⟩ := keyN sS hy e
  exact ⟨a, b, kvs, key, rfl, h1, ⟨k, rfl, g1, g2, g3⟩, dFind_rel heN g2 h1.pair (by rw [prs_vals]; exact h3)⟩
theorem op_rDGet : Op2 K T (rDGet K T) oDGet := by
  intro π F S ρ σ H x y d e res Q R hx hy hg q
  cases d <;> first | (cases hg; done) | skip
  rename_i b ks vs
  obtain ⟨_, e1, hg⟩ := Res.bind_eq hg
  obtain ⟨z, e2, hg⟩ := Res.bind_eq hg
  cases hg
  cases b with
  | false =>
    obtain ⟨a, o, rfl, g, h⟩ := findK R.sS hx hy (Res.need_eq e1)
    rcases h with ⟨_, h⟩ | ⟨v, d, rfl, h2, h3⟩
    · rw [h] at e2; cases e2
    · rw [h2] at e2
      cases e2
      exact .inl ⟨a, v, rfl, g, q S H v (Same.refl S) R h3⟩
  | true =>
    obtain ⟨a, b, kvs, key, rfl, g1, g2, h⟩ := findN R.sS hx hy (Res.need_eq e1)
    rcases h with ⟨_, h⟩ | ⟨v, d, h1, h2, h3⟩
    · rw [h] at e2; cases e2
    · rw [h2] at e2
      cases e2
      exact .inr ⟨a, b, kvs, ks, key, v, rfl, g1, g2, h1, q S H v (Same.refl S) R h3⟩
theorem op_rDIn {neg : Bool} : Op2 K T (rDIn K T neg) (oDIn neg) := by
  intro π F S ρ σ H y x e d res Q R hy hx hg q
  cases d <;> first | (cases hg; done) | skip
  rename_i b ks vs
  obtain ⟨_, e1, hg⟩ := Res.bind_eq hg
  cases hg
  cases b with
  | false =>
    obtain ⟨a, o, rfl, g, h⟩ := findK R.sS hx hy (Res.need_eq e1)
    refine .inl ⟨a, o, rfl, g, q S H _ (Same.refl S) R ?_⟩
    rcases h with ⟨rfl, h⟩ | ⟨v, d, rfl, h2, h3⟩
    · rw [h]; exact .bl _
    · rw [h2]; exact .bl _
  | true =>
    obtain ⟨a, b, kvs, key, rfl, g1, g2, h⟩ := findN R.sS hx hy (Res.need_eq e1)
    refine .inr ⟨a, b, kvs, ks, key, rfl, g1, g2, q S H _ (Same.refl S) R ?_⟩
    rcases h with ⟨h1, h⟩ | ⟨v, d, h1, h2, h3⟩
    · rw [h, h1]; exact .bl _
    · rw [h2, h1]; exact .bl _
theorem op_rDLen : Op1 K T (fun x H Q => rDLen K T [x] H Q) oDLen := by
  intro π F S ρ σ H x d res Q R hx hg q
  cases d <;> first | (cases hg; done) | skip
  rename_i b ks vs
  cases hg
  cases b with
  | false =>
    obtain ⟨a, kvs, rfl, h1, rfl, h3⟩ := hx.dicK R.sS
    refine .inl ⟨a, kvs, rfl, h1, q S H _ (Same.refl S) R ?_⟩
    rw [List.length_map]
    exact .int _
  | true =>
    obtain ⟨a, kvs, rfl, h1, h2, h3⟩ := hx.dicN R.sS
    refine .inr ⟨a, kvs, ks, rfl, h1, q S H _ (Same.refl S) R ?_⟩
    have := h2.length
    rw [List.length_map] at this
    rw [← this]
    exact .int _
end
section
variable {X : Cx} {T : Tab} {a b : Expr} {fa fb : EF} {pos p : Pos} {f : AF}
theorem get_dict {pins : List (Addr × Obj)} {s : Shared} {σ : L2.St} {H : Hp} {x y : V} {v u : Value} {Q : VK} (hu : X.A.units + 64 < cLine) (I : L2.Inv X pins σ H s) (rx : RelV x v) (ry : RelV y u) (h : rDGet X.K T x y H Q) :
    ∃ c, v = .ref c ∧ s.TypeIs (.ref c) "dict" ∧ wpAny (model X.prog X.w) X.A (getItem v u) (EP X pins σ Q) X.xe s := by
  rcases h with ⟨c, z, rfl, g, q⟩ | ⟨c, t, kvs, ks, k, z, rfl, n, ⟨d, rfl, g1, g2, g3⟩, hv, q⟩
  · obtain rfl : v = Value.ref c := rx
    exact ⟨c, rfl, dict_typeIs I g, d_getItem (by omega) I g ry fun w' s3 I3 rw' => ⟨z, H, I3, rw', q⟩⟩
  · obtain rfl : v = Value.ref c := rx
    obtain rfl : u = Value.ref t := ry
    obtain ⟨xs, hp, dd⟩ := dicN_at I n.at_ n.dr n.dk n.d8 n.nd
    refine ⟨c, rfl, dd.typeIs, ?_⟩
    obtain ⟨w', hw, rw'⟩ := RelO.some_of (v := z) (o := (atKey xs k).map (·.2)) (by rw [← hv]; exact hp.find k)
    obtain ⟨e, he, he2⟩ := Option.map_eq_some_iff.mp hw
    refine wpAny_getItem_heap (knd := nestedKind X.prog X.w) (k := k) (by show X.A.units + 1 + 8 < cLine; omega) ⟨DR.nested I g1 g2 rfl, g3⟩ dd he ?_
    rw [he2]
    exact ⟨z, H, I.tok _, rw', q⟩
theorem ee_dget (hu : X.A.units + 64 < cLine) (ha : PE X a (SE X.K T fa)) (hb : PE X b (SE X.K T fb)) (hs : NoSl b := by intro _ _; rfl) : PE X (.Subscript a b pos) (SE X.K T (e2 oDGet fa fb)) := by
  have z : PE X (.Subscript a b pos) (fun σ H Q => SE X.K T fa σ H fun x H1 => SE X.K T fb σ H1 fun y H2 => rDGet X.K T x y H2 Q) := by
    refine ⟨fun pins s σ H Q I h => subD_of PySem.F.slot_dict_getitem.lookup hs ?_⟩
    exact thn (ha.run pins s σ H _ I h) fun u s1 ⟨x, H1, I1, rx, q1⟩ => thn (hb.run pins s1 σ H1 _ I1 q1) fun iv s2 ⟨y, H2, I2, ry, q2⟩ => by
      obtain ⟨c, rfl, ht, w⟩ := get_dict hu I2 rx ry q2
      exact ⟨ht, w⟩
  exact z.imp fun _ _ _ q => q.e2 op_rDGet
theorem op_inD (hu : X.A.units + 64 < cLine) : OpR X (compareOp .In) (rDIn X.K T false) := by
  intro pins s σ H y x v u Q I ry rx h
  rcases h with ⟨c, o, rfl, g, q⟩ | ⟨c, t, kvs, ks, k, rfl, n, ⟨d, rfl, g1, g2, g3⟩, q⟩
  · obtain rfl : u = Value.ref c := rx
    exact d_in (by omega) I g ry fun s3 I3 => ⟨_, H, I3, by show Value.bool _ = Value.bool _; simp, q⟩
  · obtain rfl : u = Value.ref c := rx
    obtain rfl : v = Value.ref t := ry
    obtain ⟨xs, hp, dd⟩ := dicN_at I n.at_ n.dr n.dk n.d8 n.nd
    refine wpAny_in_heap (knd := nestedKind X.prog X.w) (k := k) (by show X.A.units + 1 + 8 < cLine; omega) ⟨DR.nested I g1 g2 rfl, g3⟩ n.sy dd ?_
    have e := (hp.find k).isSome_eq
    rw [Option.isSome_map] at e
    rw [← e]
    exact ⟨_, H, I.tok _, by show Value.bool _ = Value.bool _; simp, q⟩
theorem op_notInD (hu : X.A.units + 64 < cLine) : OpR X (compareOp .NotIn) (rDIn X.K T true) := by
  intro pins s σ H y x v u Q I ry rx h
  rcases h with ⟨c, o, rfl, g, q⟩ | ⟨c, t, kvs, ks, k, rfl, n, ⟨d, rfl, g1, g2, g3⟩, q⟩
  · obtain rfl : u = Value.ref c := rx
    exact d_notIn (by omega) I g ry fun s3 I3 => ⟨_, H, I3, by show Value.bool _ = Value.bool _; simp, q⟩
  · obtain rfl : u = Value.ref c := rx
    obtain rfl : v = Value.ref t := ry
    obtain ⟨xs, hp, dd⟩ := dicN_at I n.at_ n.dr n.dk n.d8 n.nd
    refine wpAny_notIn_heap (knd := nestedKind X.prog X.w) (k := k) (by show X.A.units + 1 + 8 < cLine; omega) ⟨DR.nested I g1 g2 rfl, g3⟩ n.sy dd ?_
    have e := (hp.find k).isSome_eq
    rw [Option.isSome_map] at e
    rw [← e]
    exact ⟨_, H, I.tok _, by show Value.bool _ = Value.bool _; simp, q⟩
theorem ee_din (hu : X.A.units + 64 < cLine) (ha : PE X a (SE X.K T fa)) (hb : PE X b (SE X.K T fb)) (hm : behindInMarks .In b = false) : PE X (.Compare a [.In] [b] pos) (SE X.K T (e2 (oDIn false) fa fb)) := ee_cmp (op_inD hu) op_rDIn ha hb hm
theorem ee_dnotIn (hu : X.A.units + 64 < cLine) (ha : PE X a (SE X.K T fa)) (hb : PE X b (SE X.K T fb)) (hm : behindInMarks .NotIn b = false) : PE X (.Compare a [.NotIn] [b] pos) (SE X.K T (e2 (oDIn true) fa fb)) := ee_cmp (op_notInD hu) op_rDIn ha hb hm
theorem tt_din (hu : X.A.units + 64 < cLine) (ha : PE X a (SE X.K T fa)) (hb : PE X b (SE X.K T fb)) (hm : behindInMarks .In b = false) : PT X (.Compare a [.In] [b] pos) (ST X.K T (bB (e2 (oDIn false) fa fb))) := tt_cmp (op_inD hu) op_rDIn ha hb hm
theorem tt_dnotIn (hu : X.A.units + 64 < cLine) (ha : PE X a (SE X.K T fa)) (hb : PE X b (SE X.K T fb)) (hm : behindInMarks .NotIn b = false) : PT X (.Compare a [.NotIn] [b] pos) (ST X.K T (bB (e2 (oDIn true) fa fb))) := tt_cmp (op_notInD hu) op_rDIn ha hb hm
theorem call_lenDic : CallR X (.builtin "len") (rDLen X.K T) := by
  intro pins s σ H xs us Q I r h
  rcases h with h | ⟨c, kvs, ks, rfl, n, q⟩
  · exact call_lenD pins s σ H xs us Q I r h
  · rw [Vals.ref1 r]
    obtain ⟨ys, hp, dd⟩ := dicN_at I n.at_ n.dr n.dk n.d8 n.nd
    have z := n.sz
    have hl := hp.length
    refine call_len_dictH n.sy dd (by rw [← hl]; rw [sizeLine_eq] at z; omega) ?_
    rw [← hl]
    exact ⟨.int kvs.length, H, I.tok _, ⟨_, rfl⟩, q⟩
theorem ee_dlen (hg : Gl X "len") (hm : X.mg "len" = none) (ha : PA X [a] (SA X.K T f)) (he : starEach [a] X.env = (false, eval a X.env) :: starEach [] X.env := by rfl) : PE X (.Call (.Name "len" p) [a] [] pos) (SE X.K T (eCB (c1 oDLen) f)) :=
  ee_callB call_lenDic (opC1 op_rDLen) hg hm (by decide +kernel) ha (he := he)
end

/-! ### {} -/
section
variable {K : PySem.W.Frag} {T : Tab} {π σ : L2.St} {F S H : Hp} {ρ : Env} {p : Addr} {X : Cx} {pos : Pos}
theorem new_dic {b : Bool} {o : HO} (R : Rel K T π F S ρ σ H) (h : DicH b p o [] [] []) (hp : H p = none) : Rel K T π F S ρ σ (upd H p o) ∧ RVR K T F S (upd H p o) ρ σ (.ref p) (.own (.dic b [] [])) :=
  ⟨R.alloc hp, p, rfl, ⟨same_none R.sS hp, same_none R.sF hp, o, [], [], upd_same, h, .nil, .nil⟩, R.apart hp⟩
theorem ee_dnewK : PE X (.Dict [] [] pos) (SE X.K T (eDNew false)) := pe_dnewK.imp fun σ H Q ⟨π, F, S, ρ, r, ρ', R, e, q⟩ p hp => by
  cases e
  obtain ⟨R2, rv⟩ := new_dic R (.k _ []) hp
  exact q _ _ _ (Same.refl S) R2 rv
def tDNewN : TE := fun _ H Q => ∀ p, H p = none → (p == sysModules) = false → Q (.ref p) (upd H p (DicO p []))
theorem pe_dnewN : PE X (.Dict [] [] pos) tDNewN := ⟨fun pins s σ H Q I h => by
  have hn := I.hok.fresh (Nat.le_refl s.heap.objs.size)
  have hs : (s.heap.objs.size == sysModules) = false := beq_eq_false_iff_ne.mpr (Nat.ne_of_gt I.big)
  refine wpAny_Dict_empty ⟨.ref s.heap.objs.size, _, I.laid (a := s.heap.objs.size) (o := DicO s.heap.objs.size []) (t' := s.toks) (fun _ _ q => Heap.get?_push_of_some _ q) (Nat.le_refl _) ?_, rfl, h _ hn hs⟩
  exact dicN_ok (P := X.prog) (w := X.w) (xs := []) .nil (fun _ h => by cases h) (Heap.DictOfH.new s.heap)⟩
theorem ee_dnewN : PE X (.Dict [] [] pos) (SE X.K T (eDNew true)) := pe_dnewN.imp fun σ H Q ⟨π, F, S, ρ, r, ρ', R, e, q⟩ p hp hs => by
  cases e
  obtain ⟨R2, rv⟩ := new_dic R (.n p [] [] rfl (fun _ h => by cases h) List.nodup_nil (Nat.zero_le _) hs) hp
  exact q _ _ _ (Same.refl S) R2 rv
end
end Dt
end

section
set_option Elab.async false
set_option linter.all false
set_option maxRecDepth 100000
set_option maxHeartbeats 4000000
set_option autoImplicit false
namespace Dt
open PySem PySem.Spec PyProof.Rows L2

/-! ### d[k] = v -/
def isDic (i : Nat) (ρ : Env) : Bool := match ρ[i]? with
  | some (.own (.dic _ _ _)) => true
  | some (.brw (.dic _ _ _)) => true
  | _ => false
def putDic (i : Nat) (k x : D) (ρ : Env) : Res Env := (Res.of ρ[i]?).bind fun c => (Res.need c.mut).bind fun _ => (Res.of c.dat).bind fun d => match d with
  | .dic b ks vs => (Res.need (okKey b k && decide (ks.length < sizeLine))).bind fun _ => .ok (ρ.set i (c.put (.dic b (dPut b ks vs k x).1 (dPut b ks vs k x).2)))
  | _ => .bad
def sDPut (i : Nat) (fk fe : EF) : SF := fun ρ => (fe ρ).bind fun p => (Res.of p.1.take).bind fun x => (Res.need (isDic i p.2)).bind fun _ => (fk p.2).bind fun q => (Res.of q.1.take).bind fun kd => (putDic i kd x q.2).bind fun ρ1 => .ok (.nx, ρ1)
/-- what stands behind d[y] = v -/
def rDPut (K : PySem.W.Frag) (T : Tab) (x y v : V) (H : Hp) (Q : Hp → Prop) : Prop := ∃ a, x = .ref a ∧ ((∃ H4, DPut H a y v H4 ∧ Q H4) ∨
  ∃ (b : Addr) (kvs : List (NestedKey × Addr × V)) (ks : List D) (k : NestedKey), NDic K T H a kvs ks ∧ rNKey K T y H k b ∧ kvs.length < sizeLine ∧ Q (upd H a (DicO a (putN kvs k b v))))
section
variable {K : PySem.W.Frag} {T : Tab} {π σ : L2.St} {F S S' H H' : Hp} {ρ ρ' : Env} {a : Addr} {v w : V} {d : D} {r : RV} {c : Cell} {i : Nat}
theorem isDic_at (R : Rel K T π F S ρ σ H) (e : isDic i ρ = true) : ∃ a, σ[i]? = some (some (V.ref a)) := by
  unfold isDic at e
  split at e
  · rename_i hc
    obtain ⟨a, h1, o⟩ := R.sl i _ hc
    exact ⟨a, h1⟩
  · rename_i hc
    obtain ⟨a, h1, _, o⟩ := R.sl i _ hc
    exact ⟨a, h1⟩
  · cases e
theorem putN_mem {kvs : List (NestedKey × Addr × V)} {k : NestedKey} {b : Addr} {v : V} {p : NestedKey × Addr × V} (h : p ∈ putN kvs k b v) : p.1 = k ∨ p.1 ∈ kvs.map (·.1) := by
  have : p.1 ∈ (putN kvs k b v).map (·.1) := List.mem_map.mpr ⟨p, h, rfl⟩
  rw [putN_keys] at this
  unfold putK at this
  split at this
  · rw [keys_repl, prs_keys] at this; exact .inr this
  · rw [List.map_append, List.mem_append, prs_keys] at this
    rcases this with h | h
    · exact .inr h
    · exact .inl (by simpa using h)
theorem putN_nd {kvs : List (NestedKey × Addr × V)} {k : NestedKey} {b : Addr} {v : V} (h : (kvs.map (·.1)).Nodup) : ((putN kvs k b v).map (·.1)).Nodup := by
  rw [putN_keys]
  unfold putK
  split
  · rw [keys_repl, prs_keys]; exact h
  · rename_i n
    rw [List.map_append, prs_keys, List.nodup_append]
    refine ⟨h, by simp, fun x hx y hy e => ?_⟩
    obtain rfl : y = k := by simpa using hy
    subst e
    obtain ⟨p, hp, e⟩ := List.mem_map.mp hx
    refine n ?_
    rw [any_prs, List.any_eq_true]
    exact ⟨p, hp, decide_eq_true e⟩
theorem dr_key (k : Key) : DR K T S (kV k) (keyD k) := by
  cases k with
  | inl i => exact .int i
  | inr x => exact .str x
/-- the dict in slot i is stored to -/
theorem putDic_run {k x : D} {Q : Hp → Prop} {y : V} (R : Rel K T π F S ρ σ H) (e : putDic i k x ρ = .ok ρ') (hk : DR K T S y k) (hx : DR K T S v x) (hi : σ[i]? = some (some w))
    (q : ∀ H', Rel K T π F S ρ' σ H' → Q H') : rDPut K T w y v H Q := by
  obtain ⟨c, e1, e⟩ := Res.bind_eq e
  obtain ⟨_, e2, e⟩ := Res.bind_eq e
  obtain ⟨d, e3, e⟩ := Res.bind_eq e
  have mc := Res.need_eq e2
  obtain ⟨a, ha, ow⟩ := R.ownd (Res.of_eq e1) mc (Res.of_eq e3)
  rw [hi] at ha; cases ha
  cases d <;> first | (cases e; done) | skip
  rename_i b ks vs
  obtain ⟨_, e4, e⟩ := Res.bind_eq e
  have e4 := Res.need_eq e4
  rw [Bool.and_eq_true] at e4
  have e5 := of_decide_eq_true e4.2
  cases e
  have rd : RD K T S H (.ref a) (.dic b ks vs) := .inr ⟨a, rfl, ow.2.2⟩
  have chg := fun {o} => R.mutate (o := o) (d := .dic b (dPut b ks vs k x).1 (dPut b ks vs k x).2) (Res.of_eq e1) mc hi
  refine ⟨a, rfl, ?_⟩
  cases b with
  | false =>
    obtain ⟨a', kvs, z, h1, rfl, h3⟩ := rd.dicK R.sS
    cases z
    obtain ⟨key, ek⟩ := Option.isSome_iff_exists.mp (show (keyOf k).isSome = true from e4.1)
    have ey := keyV (H := S) (S := S) (.inl hk) ek
    subst ey
    obtain ⟨q1, q2⟩ := dPut_rel heK (keyOf_eq ek) hx (krK_keys kvs) h3
    have kr := krK_eq q1
    rw [List.map_map] at kr
    have kd : ∀ l : List (Key × V), DRs K T S (l.map fun p => kV p.1) (l.map fun p => keyD p.1) := fun l => by
      induction l with
      | nil => exact .nil
      | cons p l ih => exact .cons (dr_key p.1) ih
    refine .inl ⟨_, DPut.k h1 (by simpa using e5), q _ (chg ⟨_, (putK kvs key v).map fun p => kV p.1, _, upd_same, ?_, ?_, q2⟩)⟩
    · rw [kr]; exact .k a _
    · rw [kr]; exact kd _
  | true =>
    obtain ⟨a', kvs, z, n, h2, h3⟩ := rd.dicN R.sS
    cases z
    obtain ⟨b, key, rfl, g1, g2, g3⟩ := keyN R.sS (.inl hk) e4.1
    have hl : kvs.length < sizeLine := by
      have := h2.length
      rw [List.length_map] at this
      omega
    obtain ⟨q1, q2⟩ := dPut_rel heN g2 hx n.pair (by rw [prs_vals]; exact h3)
    refine .inr ⟨b, kvs, ks, key, n, ⟨k, rfl, g1, g2, g3⟩, hl, q _ (chg ⟨_, _, _, upd_same, .n a (putN kvs key b v) _ ?_ (fun p hp => ?_) (putN_nd n.nd) (Nat.le_trans (putN_le ..) hl) n.sy, ?_, ?_⟩)⟩
    · rw [krN_eq q1, ← putN_keys (a := b), List.map_map]; rfl
    · rcases putN_mem hp with z | z
      · rw [z]; exact g3
      · obtain ⟨p', hp', e⟩ := List.mem_map.mp z
        rw [← e]; exact n.d8 p' hp'
    · rw [putN_addr]
      unfold dPut
      rw [dHas_rel heN g2 n.pair, any_prs]
      split
      · exact h2
      · exact h2.append (.one hk)
    · rw [← prs_vals, prs_put]; exact q2
end
section
variable {X : Cx} {T : Tab} {o e ke : Expr} {es : List Expr} {fe fk : EF} {g : AF} {pos pos' kpos : Pos} {i kk : Nat} {td ty tv : TE}
theorem put_dict {pins : List (Addr × Obj)} {s : Shared} {σ : L2.St} {H : Hp} {x y v : V} {vx vy vv : Value} {Q : Hp → Prop} {R : Unit → Shared → Prop} (hu : X.A.units + 64 < cLine) (I : L2.Inv X pins σ H s) (rx : L2.RelV x vx) (ry : L2.RelV y vy) (rv : L2.RelV v vv) (h : rDPut X.K T x y v H Q)
    (hR : ∀ s' H', L2.Inv X pins σ H' s' → Q H' → R () s') : wpAny (model X.prog X.w) X.A (setItem vx vy vv) R X.xe s := by
  obtain ⟨a, rfl, h⟩ := h
  obtain rfl : vx = Value.ref a := rx
  rcases h with ⟨H4, g, q⟩ | ⟨b, kvs, ks, k, n, ⟨d, rfl, g1, g2, g3⟩, hl, q⟩
  · exact d_setItem (by omega) I g ry rv fun s' I' => hR s' H4 I' q
  · obtain rfl : vy = Value.ref b := ry
    obtain ⟨xs, hp, dd⟩ := dicN_at I n.at_ n.dr n.dk n.d8 n.nd
    have e := n.at_
    have hz := n.sz
    rw [hp.length] at hz
    refine wpAny_setItem_heap (knd := nestedKind X.prog X.w) (k := k) (hsz := hz) (by show X.A.units + 1 + 8 < cLine; omega) ⟨DR.nested I g1 g2 rfl, g3⟩ dd fun h' dd' hs => ?_
    obtain ⟨oo, es, ep, ho, _⟩ := id dd'
    refine hR _ _ (d_write I (by rw [e]; exact True.intro) hs ⟨oo, ho⟩ (dicN_ok (hp.put k b rv) (fun p hp' => ?_) dd')) q
    rcases putN_mem hp' with z | z
    · rw [z]; exact dkey_free g2
    · obtain ⟨p', hp', e⟩ := List.mem_map.mp z
      rw [← e]; exact keys_free n.dk p' hp'
theorem ss_dput (hu : X.A.units + 64 < cLine) (ho : PE X o (tVar i)) (hk : PE X ke (SE X.K T fk)) (he : PE X e (SE X.K T fe)) (hs : swapsWith e (some (.Subscript o ke pos')) pos.line X.env = pure false := by rfl) :
    PS X (.Assign [.Subscript o ke pos'] e pos) (SS X.K T (sDPut i fk fe)) := by
  have z : PS X (.Assign [.Subscript o ke pos'] e pos) (fun D σ H => SE X.K T fe σ H fun v H1 => tVar i σ H1 fun x H2 => SE X.K T fk σ H2 fun y H3 => rDPut X.K T x y v H3 fun H4 => D.nx σ H4) := by
    refine ⟨fun pins s σ H D I h => ?_⟩
    refine wpAny_Assign_Subscript (thn (he.run pins s σ H _ I h) fun r s1 ⟨v, H1, I1, rv, q1⟩ => thn (ho.run pins s1 σ H1 _ I1 q1) fun u s2 ⟨x, H2, I2, rx, q2⟩ => thn (hk.run pins s2 σ H2 _ I2 q2) fun iv s3 ⟨y, H3, I3, ry, q3⟩ => ?_) hs
    exact put_dict hu I3 rx ry rv q3 fun s' H' I' q => ⟨σ, H', I', q⟩
  refine z.imp fun D σ H ⟨π, F, S, ρ, fl, ρ', R, e, q⟩ => ?_
  obtain ⟨⟨r, ρ1⟩, e1, e⟩ := Res.bind_eq e
  obtain ⟨x, e2, e⟩ := Res.bind_eq e
  obtain ⟨_, e9, e⟩ := Res.bind_eq e
  obtain ⟨⟨rk, ρ2⟩, e3, e⟩ := Res.bind_eq e
  obtain ⟨kd, e4, e⟩ := Res.bind_eq e
  obtain ⟨ρ3, e6, e⟩ := Res.bind_eq e
  cases e
  refine ⟨π, F, S, ρ, r, ρ1, R, e1, fun S1 H1 v s1 R1 rv => ?_⟩
  obtain ⟨S2, s2, R2, hv⟩ := rv.take R1 (Res.of_eq e2)
  obtain ⟨b, hb⟩ := isDic_at R2 (Res.need_eq e9)
  refine ⟨_, hb, π, F, S2, ρ1, rk, ρ2, R2, e3, fun S3 H3 w s3 R3 rw' => ?_⟩
  obtain ⟨S4, s4, R4, hk⟩ := rw'.take R3 (Res.of_eq e4)
  exact putDic_run R4 e6 hk (hv.mono (s3.trans s4)) hb fun H' R' => q S4 σ H' (s1.trans (s2.trans (s3.trans s4))) R'
end

/-! ### {k: v} -/
def eDisp1 (fk fv : EF) : EF := fun ρ => (fk ρ).bind fun p => (Res.of p.1.take).bind fun k => (Res.need (keyOf k).isSome).bind fun _ => (fv p.2).bind fun q => (Res.of q.1.take).bind fun x => .ok (.own (.dic false [k] [x]), q.2)
section
variable {X : Cx} {T : Tab} {ke ve : Expr} {fk fv : EF} {pos : Pos}
theorem ee_disp1 (hk : PE X ke (SE X.K T fk)) (hv : PE X ve (SE X.K T fv)) : PE X (.Dict [some ke] [ve] pos) (SE X.K T (eDisp1 fk fv)) :=
  (pe_disp (pps_cons hk hv pps_nil) (by rfl) (by rfl) (fun z => by cases z) (by simp)).imp fun σ H Q ⟨π, F, S, ρ, r, ρ', R, e, q⟩ p hp => by
  obtain ⟨⟨rk, ρ1⟩, e1, e⟩ := Res.bind_eq e
  obtain ⟨k, e2, e⟩ := Res.bind_eq e
  obtain ⟨_, e3, e⟩ := Res.bind_eq e
  obtain ⟨⟨rv, ρ2⟩, e4, e⟩ := Res.bind_eq e
  obtain ⟨x, e5, e⟩ := Res.bind_eq e
  cases e
  obtain ⟨R0, rv0⟩ := new_dic R (.k p []) hp
  -- the new dict is put aside while the pair is made
  obtain ⟨b, eb, o0, ap0⟩ := rv0
  cases eb
  refine ⟨π, _, S, ρ, rk, ρ1, R0.lend o0 ap0 upd_same, e1, fun S1 H1 y s1 R1 ry => ?_⟩
  obtain ⟨S2, s2, R2, hy⟩ := ry.take R1 (Res.of_eq e2)
  refine ⟨π, _, S2, ρ1, rv, ρ2, R2, e4, fun S3 H3 z s3 R3 rz => ?_⟩
  obtain ⟨S4, s4, R4, hz⟩ := rz.take R3 (Res.of_eq e5)
  obtain ⟨R5, h5, n5, ap5⟩ := Rel.unlend (same_none R.sF hp) R4
  obtain ⟨key, ek⟩ := Option.isSome_iff_exists.mp (Res.need_eq e3)
  have ey := keyV (H := S2) (S := S2) (.inl hy) ek
  have ed : k = keyD key := keyOf_eq ek
  subst ey ed
  refine ⟨h5, [(key, z)], rfl, by simp, ?_⟩
  have own : Own X.K T F S4 (upd H3 p (.dK (mergeK [] [(key, z)]))) p (.dic false [keyD key] [x]) := ⟨n5, same_none R.sF hp, _, [kV key], [z], upd_same, .k p [(key, z)], .one (hy.mono (s3.trans s4)), .one hz⟩
  refine q S4 _ _ (s1.trans (s2.trans (s3.trans s4))) (R5.step (Same.refl S4) (fun c u h => ?_) (fun c u h => ?_) R5.dj R5.nS ?_ fun i c b hc m e => ⟨upd_ne fun z => ap5 i c hc m (by rw [e, z]), (R5.ownAt hc m e).1⟩) ⟨p, rfl, own, ap5⟩
  · rw [upd_ne (ne_of_none h n5)]; exact R5.sS _ _ h
  · rw [upd_ne (ne_of_none h (same_none R.sF hp))]; exact R5.sF _ _ h
  · exact tabs_keep (K := X.K) (T := T) (S := S4) R5.tb (d := .dic false [] []) ⟨_, [], [], h5, .k p [], .nil, .nil⟩ fun b hb => upd_ne hb
end
end Dt
end

section
set_option Elab.async false
set_option linter.all false
set_option maxRecDepth 100000
set_option maxHeartbeats 4000000
set_option autoImplicit false
namespace Dt
open PySem PySem.Spec PyProof.Rows L2

/-! ### d == {} -/
section
variable {P : Program} {w : World} {A : Around} {E : Value → Shared → Prop} {s : Shared}
theorem pairs_none {nm : String} {a b : Addr} {oa ob : Obj} {es es' : Array DictEntry} {ep ep' : Nat} {Q : Bool → Shared → Prop} (ha : (a == sysModules) = false) (hb : (b == sysModules) = false)
    (ga : s.heap.get? a = some oa) (da : oa.data = .dict es ep) (gb : s.heap.get? b = some ob) (db : ob.data = .dict es' ep') (z : es'.size = 0) (h : Q (es.size == 0) s) : wpAny (model P w) A (Builtin.Dict.samePairs nm a b) Q E s := by
  have na : ¬ (a == sysModules) = true := by rw [ha]; exact Bool.false_ne_true
  have nb : ¬ (b == sysModules) = true := by rw [hb]; exact Bool.false_ne_true
  unfold Builtin.Dict.samePairs Builtin.Dict.showsAll
  rw [if_neg na, if_neg nb]
  refine wpAny_bind (wpAny_pure (wpAny_bind (wpAny_pure (wpAny_bind (wpAny_dictEntries ga da ?_)))))
  dsimp only
  refine wpAny_bind (wpAny_dictEntries gb db ?_)
  by_cases hs : es.size = 0
  · rw [hs] at h
    rw [if_neg (by rw [hs, z]; decide)]
    refine wpAny_bind (wpAny_dictEpoch ga da (wpAny_bind ?_))
    rw [Std.Legacy.Range.forIn_eq_forIn_range', hs]
    exact wpAny_pure (wpAny_pure h)
  · have hf : (es.size == 0) = false := by simpa using hs
    rw [hf] at h
    rw [if_pos (by rw [z]; simpa using hs)]
    exact wpAny_bind (wpAny_rule (wpAny_pure h))
end
def rEqE (K : PySem.W.Frag) (T : Tab) : R2 := fun x y H Q => ∃ (a b : Addr) (kvs : List (NestedKey × Addr × V)) (ks : List D), x = .ref a ∧ y = .ref b ∧ NDic K T H a kvs ks ∧ NDic K T H b [] [] ∧ Q (.bl kvs.isEmpty) H
def oEqE : D → D → Res RV := fun d e => match d, e with
  | .dic true ks _, .dic true [] _ => .ok (.fro (.bl ks.isEmpty))
  | _, _ => .bad
theorem op_rEqE {K : PySem.W.Frag} {T : Tab} : Op2 K T (rEqE K T) oEqE := by
  intro π F S ρ σ H x y d e res Q R hx hy hg q
  cases d <;> first | (cases hg; done) | skip
  rename_i b ks vs
  cases e <;> first | (cases b <;> cases hg; done) | skip
  rename_i b' ks' vs'
  cases b <;> cases b' <;> first | (cases hg; done) | skip
  cases ks' <;> first | (cases hg; done) | skip
  cases hg
  obtain ⟨a, kvs, rfl, n, h2, _⟩ := hx.dicN R.sS
  obtain ⟨a', kvs', rfl, n', h2', _⟩ := hy.dicN R.sS
  have z : kvs' = [] := by
    have := h2'.length
    rw [List.length_map] at this
    exact List.length_eq_zero_iff.mp this
  subst z
  refine ⟨a, a', kvs, ks, rfl, rfl, n, n', q S H _ (Same.refl S) R ?_⟩
  cases h2' 
  cases kvs with
  | nil => cases h2; exact .bl _
  | cons _ _ => cases h2; exact .bl _
section
variable {X : Cx} {T : Tab} {a b : Expr} {fa fb : EF} {pos : Pos}
theorem op_eqE (hu : X.A.units + 64 < cLine) : OpR X (compareOp .Eq) (rEqE X.K T) := by
  intro pins s σ H x y v u Q I rx ry h
  obtain ⟨a, b, kvs, ks, rfl, rfl, n, n', q⟩ := h
  obtain rfl : v = Value.ref a := rx
  obtain rfl : u = Value.ref b := ry
  obtain ⟨xs, hp, dd⟩ := dicN_at I n.at_ n.dr n.dk n.d8 n.nd
  obtain ⟨xs', hp', dd'⟩ := dicN_at I n'.at_ n'.dr n'.dk n'.d8 n'.nd
  obtain ⟨oa, es, ep, ga, _, da, ea, _⟩ := id dd
  obtain ⟨ob, es', ep', gb, _, db, eb, _⟩ := id dd'
  have ta := dd.typeIs
  have tb := dd'.typeIs
  have z : es'.size = 0 := by
    rw [size_of_entries eb, ← hp'.length]; rfl
  have m : (es.size == 0) = kvs.isEmpty := by
    rw [size_of_entries ea, ← hp.length]
    cases kvs <;> rfl
  have go : ∀ Q' : Value → Shared → Prop, Q' (.bool (es.size == 0)) s → wpAny (model X.prog X.w) X.A (compareOp .Eq (.ref a) (.ref b)) Q' X.xe s := fun Q' h' => by
    refine wpAny_richCompare_same_room (op := .Eq) ta tb F.slot_dict_eq ?_ (by omega)
    refine wpAny_call_entry F.slot_dict_eq ta F.entry_dict_eq ?_ (F.args_dict_eq_2 _ _)
    show wpAny _ _ (Builtin.Dict.dictSlotArgs "__eq__" ⟨[.ref a, .ref b], []⟩ >>= _) _ _ s
    refine wpAny_bind ?_
    unfold Builtin.Dict.dictSlotArgs
    refine wpAny_bind (wpAny_notOrdered_dict ta ?_)
    show wpAny _ _ (pure (Value.ref a, Value.ref b)) _ _ s
    refine wpAny_pure (wpAny_bind (wpAny_isInstance (T := "dict") tb F.sub_dict_dict ?_))
    simp only [Bool.not_true, Bool.false_eq_true, if_false]
    refine wpAny_bind (wpAny_pure (wpAny_bind (wpAny_pure (wpAny_bind (pairs_none n.sy n'.sy ga da gb db z (wpAny_pure ⟨_, rfl, ?_, ?_⟩))))))
    · exact fun x => nomatch x
    · simpa using h'
  exact go _ ⟨.bl kvs.isEmpty, H, I, by rw [m]; rfl, q⟩
theorem ee_eqE (hu : X.A.units + 64 < cLine) (ha : PE X a (SE X.K T fa)) (hb : PE X b (SE X.K T fb)) : PE X (.Compare a [.Eq] [b] pos) (SE X.K T (e2 oEqE fa fb)) := ee_cmp (op_eqE hu) op_rEqE ha hb (nomark _)
theorem tt_eqE (hu : X.A.units + 64 < cLine) (ha : PE X a (SE X.K T fa)) (hb : PE X b (SE X.K T fb)) : PT X (.Compare a [.Eq] [b] pos) (ST X.K T (bB (e2 oEqE fa fb))) := tt_cmp (op_eqE hu) op_rEqE ha hb (nomark _)
end

/-! ### list(d), sorted(d) of a dict with tuples as keys -/
section
variable {X : Cx} {T : Tab}
/-- what collecting the keys gives -/
theorem keys_got {kvs : List (NestedKey × Addr × V)} {xs : List (NestedKey × Addr × Value)} {es : Array DictEntry} {acc : Array Value} {P : Program} {w : World} (hp : KN kvs xs) (he : es.toList = xs.map (entryOfKey (nestedKind P w))) (hs : acc.size = es.size)
    (h : ∀ (j : Nat) (v : Value), acc[j]? = some v → ∃ en : DictEntry, es[j]? = some en ∧ v = en.key) : acc.toList = kvs.map fun p => Value.ref p.2.1 := by
  rw [(KN.keys hp).2]
  apply List.ext_getElem?
  intro j
  have hal : acc.toList.length = xs.length := by rw [Array.length_toList, hs, size_of_entries he]
  cases hj : acc.toList[j]? with
  | none =>
    rw [List.getElem?_map, List.getElem?_eq_none (by have := List.getElem?_eq_none_iff.mp hj; omega)]; rfl
  | some v =>
    obtain ⟨en, hen, hv⟩ := h j v (by rw [← Array.getElem?_toList]; exact hj)
    have qe := entry_at he j
    rw [hen] at qe
    obtain ⟨x, hx1, hx2⟩ := Option.map_eq_some_iff.mp qe.symm
    rw [List.getElem?_map, hx1, hv, ← hx2]; rfl
theorem vals_refsN : ∀ kvs : List (NestedKey × Addr × V), Vals (kvs.map fun p => V.ref p.2.1) (kvs.map fun p => Value.ref p.2.1)
  | [] => .nil
  | p :: kvs => .cons rfl (vals_refsN kvs)
def rListN (K : PySem.W.Frag) (T : Tab) : List V → Hp → VK → Prop := fun xs H Q => ∃ (a : Addr) (kvs : List (NestedKey × Addr × V)) (ks : List D), xs = [.ref a] ∧ NDic K T H a kvs ks ∧ ∀ p, H p = none → Q (.ref p) (upd H p (.lst (kvs.map fun p => V.ref p.2.1)))
theorem call_listN (hc : X.calm = true) : CallR X (.type "list") (rListN X.K T) := by
  intro pins s σ H vs us Q I r h
  obtain ⟨a, kvs, ks, rfl, n, q⟩ := h
  rw [Vals.ref1 r]
  obtain ⟨xs, hp, dd⟩ := dicN_at I n.at_ n.dr n.dk n.d8 n.nd
  obtain ⟨o, es, ep, ho, hx, hdt, he, _⟩ := id dd
  have z := n.sz
  have hes : es.size = kvs.length := by rw [size_of_entries he, hp.length]
  refine PySem.W.kdl_call (kdl_raw n.sy hx hdt) (I.ok.hd hc) ho (by omega) fun h' tk acc c kp e it => ?_
  have ea := keys_got hp he it.1 it.2
  have hz : (kvs.map fun p => V.ref p.2.1).length ≤ sizeLine := by rw [List.length_map]; omega
  refine ⟨.ref s.heap.objs.size, _, I.laid (t' := tk) (o := .lst (kvs.map fun p => V.ref p.2.1)) kp (Nat.le_refl _) ?_, rfl, q _ (I.hok.fresh (Nat.le_refl _))⟩
  exact ⟨hz, acc.toList, c, by rw [ea]; exact vals_refsN kvs, by rw [Array.toArray_toList]; exact e⟩
end
def oListN : D → Res RV
  | .dic true ks _ => .ok (.own (.lst ks))
  | _ => .bad
theorem op_rListN {K : PySem.W.Frag} {T : Tab} : Op1 K T (fun x H Q => rListN K T [x] H Q) oListN := by
  intro π F S ρ σ H x d res Q R hx hg q
  cases d <;> first | (cases hg; done) | skip
  rename_i b ks vs
  cases b with
  | false => cases hg
  | true =>
    cases hg
    obtain ⟨a, kvs, rfl, n, h2, _⟩ := hx.dicN R.sS
    refine ⟨a, kvs, ks, rfl, n, fun p hp => ?_⟩
    obtain ⟨R2, rv⟩ := new_lst R h2 hp
    exact q _ _ _ (Same.refl S) R2 rv
section
variable {X : Cx} {T : Tab} {a : Expr} {f : AF} {p pos : Pos}
theorem ee_listN (hc : X.calm = true) (hg : Gl X "list") (hm : X.mg "list" = none) (ha : PA X [a] (SA X.K T f)) (he : starEach [a] X.env = (false, eval a X.env) :: starEach [] X.env := by rfl) : PE X (.Call (.Name "list" p) [a] [] pos) (SE X.K T (eCB (c1 oListN) f)) :=
  ee_callTy (call_listN hc) (opC1 op_rListN) hg hm (by decide +kernel) ha (he := he)
end
theorem perm_map_inv {α β : Type} {f : α → β} {m n : List β} (h : m.Perm n) : ∀ {L : List α}, n = L.map f → ∃ L' : List α, m = L'.map f ∧ L'.Perm L := by
  induction h with
  | nil =>
    intro L e
    exact ⟨L, e, .refl _⟩
  | @cons x l1 l2 _ ih =>
    intro L e
    cases L with
    | nil => cases e
    | cons y L2 =>
      rw [List.map_cons] at e
      injection e with e1 e2
      obtain ⟨L', q1, q2⟩ := ih e2
      exact ⟨y :: L', by rw [List.map_cons, ← e1, ← q1], q2.cons y⟩
  | swap x y l =>
    intro L e
    match L, e with
    | a :: b :: L2, e =>
      rw [List.map_cons, List.map_cons] at e
      injection e with e1 e2
      injection e2 with e2 e3
      exact ⟨b :: a :: L2, by rw [List.map_cons, List.map_cons, e1, e2, e3], .swap _ _ _⟩
  | trans _ _ ih1 ih2 =>
    intro L e
    obtain ⟨L2, q1, q2⟩ := ih2 e
    obtain ⟨L1, q3, q4⟩ := ih1 q1
    exact ⟨L1, q3, q4.trans q2⟩
def rSortN (K : PySem.W.Frag) (T : Tab) : List V → Hp → VK → Prop := fun xs H Q => ∃ (a : Addr) (kvs : List (NestedKey × Addr × V)) (ks : List D) (M : List (Addr × List Int)) (d : Nat), xs = [V.ref a] ∧ NDic K T H a kvs ks ∧ kvs.map (fun p => V.ref p.2.1) = M.map (fun q => V.ref q.1) ∧
  (∀ q ∈ M, SqT K H q.1 (q.2.map V.int)) ∧ M.length < 64 ∧ 1 ≤ d ∧ (∀ q ∈ M, q.2.length = d ∧ TS.Bd 64 q.2) ∧
  ∀ (L : List (Addr × List Int)) (p : Addr), L.Perm M → L.Pairwise (fun q r => TS.code 64 q.2 ≤ TS.code 64 r.2) → H p = none → Q (.ref p) (upd H p (.lst (L.map fun q => V.ref q.1)))
section
variable {X : Cx} {T : Tab}
theorem refs_to {α β : Type} {f : α → Addr} {g : β → Addr} : ∀ {l : List α} {m : List β}, l.map (fun p => V.ref (f p)) = m.map (fun q => V.ref (g q)) → l.map (fun p => Value.ref (f p)) = m.map fun q => Value.ref (g q)
  | [], [], _ => rfl
  | a :: l, b :: m, h => by
    rw [List.map_cons, List.map_cons] at h
    injection h with h1 h2
    injection h1 with h1
    rw [List.map_cons, List.map_cons, refs_to h2, h1]
  | [], _ :: _, h => by cases h
  | _ :: _, [], h => by cases h
theorem cr_sortN (hc : X.calm = true) : CallR X (.builtin "sorted") (rSortN X.K T) := by
  intro pins s σ H vs us Q I r h
  obtain ⟨a, kvs, ks, M, d, rfl, n, hM, hT, h64, hd1, hB, q⟩ := h
  rw [Vals.ref1 r]
  obtain ⟨xs, hp, dd⟩ := dicN_at I n.at_ n.dr n.dk n.d8 n.nd
  obtain ⟨o, es, ep, ho, hx, hdt, he, _⟩ := id dd
  have hl : kvs.length = M.length := by
    have := congrArg List.length hM
    simpa using this
  have hes : es.size = kvs.length := by rw [size_of_entries he, hp.length]
  have fit : es.size ≤ sizeLine := by rw [sizeLine_eq]; omega
  refine Calls.call_function_entry kind_sorted plain_sorted entry_sorted (args_sorted1 _) ?_
  unfold Builtin.«sorted»
  refine wpAny_bind (m := checkCount "sorted" 1 1 _) (wpAny_pure (wpAny_bind ?_))
  refine PySem.W.kdu_collect (A := X.A.in1) (kdl_raw n.sy hx hdt) (I.ok.hd hc) ho fit fun h' tk acc kp it => ?_
  have ea : acc.toList = M.map fun q => Value.ref q.1 := (keys_got hp he it.1 it.2).trans (refs_to hM)
  have I1 : L2.Inv X pins σ H { s with heap := h', toks := tk } := I.kept kp
  have hvl : acc.toList.length < 64 := by rw [ea, List.length_map]; omega
  refine wpAny_bind (wpAny_newList ?_ (by rw [sizeLine_eq]; omega))
  have hoL : (h'.push (seqObj "list" acc.toList.toArray 0)).get? h'.objs.size = some (seqObj "list" acc.toList.toArray 0) := Heap.get?_push_size _ rfl
  have tk1 : ∀ q ∈ M, TS.TupInts (h'.push (seqObj "list" acc.toList.toArray 0)) (.ref q.1) q.2 := fun q hq => by
    have t := tupI_raw I1 (t := q.1) (ns := q.2) (hT q hq)
    exact t.keeps fun b u e _ => Heap.get?_push_of_some _ e
  have ok : TS.TupsOk (h'.push (seqObj "list" acc.toList.toArray 0)) d 64 acc.toList := fun v hv => by
    rw [ea] at hv
    obtain ⟨q, hq, rfl⟩ := List.mem_map.mp hv
    exact ⟨q.2, tk1 q hq, (hB _ hq).1, (hB _ hq).2⟩
  refine wpAny_bind (wpAny_holding (TS.call_sort_tups (s := { s with heap := h'.push (seqObj "list" acc.toList.toArray 0), toks := tk }) hoL hvl hd1 ok fun out a1 a2 => ?_))
  obtain ⟨c, hco⟩ := sortedHeap_at (vs := acc.toList) (out := out) hoL
  obtain ⟨L', e1, pm⟩ : ∃ L' : List (Addr × List Int), out.toList = L'.map (fun q => Value.ref q.1) ∧ L'.Perm M := by
    rw [ea] at a1
    exact perm_map_inv a1 rfl
  have pw : L'.Pairwise fun q r => TS.code 64 q.2 ≤ TS.code 64 r.2 := by
    rw [e1] at a2
    refine List.Pairwise.imp_of_mem (fun {q r} hq hr hle => ?_) (List.pairwise_map.mp a2)
    have f1 : TS.intsOf (h'.push (seqObj "list" acc.toList.toArray 0)) (.ref q.1) = q.2 := (tk1 q (pm.mem_iff.mp hq)).ints
    have f2 : TS.intsOf (h'.push (seqObj "list" acc.toList.toArray 0)) (.ref r.1) = r.2 := (tk1 r (pm.mem_iff.mp hr)).ints
    rw [← f1, ← f2]
    exact hle
  have hv : Vals (L'.map fun q => V.ref q.1) out.toList := by rw [e1]; exact vals_of_refs L'
  have hz : (L'.map fun q => V.ref q.1).length ≤ sizeLine := by rw [List.length_map, pm.length_eq, sizeLine_eq]; omega
  refine wpAny_pure ⟨_, rfl, .ref h'.objs.size, upd H h'.objs.size (.lst (L'.map fun q => V.ref q.1)), I1.laid (t' := tk) (fun b u e => ?_) (Nat.le_refl _)
    (show ObjOk X.prog X.w _ _ _ (.lst (L'.map fun q => V.ref q.1)) from ⟨hz, out.toList, c, hv, by rw [Array.toArray_toList]; exact hco⟩), rfl, q L' _ pm pw (I1.hok.fresh (Nat.le_refl _))⟩
  have hb : b < h'.objs.size := Heap.lt_size e
  rw [sortedHeap_old (Nat.ne_of_lt hb) (by rw [size_push']; exact Nat.lt_succ_of_lt hb)]
  exact Heap.get?_push_of_some _ e
end
def oSortN : D → Res RV
  | .dic true ks _ => (Res.of (D.tups ks)).bind fun kk => (Res.need (decide (kk.length < 64) && decide (1 ≤ (kk.headD [0]).length) && kk.all (tupB (kk.headD [0]).length))).bind fun _ => .ok (.own (.lst ((ascU (TS.code 64) kk).map kD)))
  | _ => .bad
theorem dkey_ints : ∀ {ds : List D} {k : List Int}, D.ints ds = some k → dkeys ds = some (k.map NestedKey.num)
  | [], _, h => by cases h; rfl
  | d :: ds, k, h => by
    cases d <;> first | (cases h; done) | skip
    rename_i i
    obtain ⟨k', e, rfl⟩ := Option.map_eq_some_iff.mp (show (D.ints ds).map (i :: ·) = some k from h)
    rw [dkeys, dkey, dkey_ints e]; rfl
theorem dkey_tups : ∀ {ds : List D} {kk : List (List Int)}, D.tups ds = some kk → ds.map dkey = kk.map fun k => some (NestedKey.tup (k.map NestedKey.num))
  | [], _, h => by cases h; rfl
  | d :: ds, kk, h => by
    cases d <;> first | (cases h; done) | skip
    rw [D.tups] at h
    split at h
    · rename_i k ks e1 e2
      cases h
      rw [List.map_cons, List.map_cons, dkey, dkey_ints e1, dkey_tups e2]; rfl
    · cases h
theorem op_rSortN {K : PySem.W.Frag} {T : Tab} : Op1 K T (fun x H Q => rSortN K T [x] H Q) oSortN := by
  intro π F S ρ σ H x d res Q R hx hg q
  cases d <;> first | (cases hg; done) | skip
  rename_i b ks vs
  cases b with
  | false => cases hg
  | true =>
    obtain ⟨kk, e1, hg⟩ := Res.bind_eq hg
    obtain ⟨_, e2, hg⟩ := Res.bind_eq hg
    cases hg
    have e2 := Res.need_eq e2
    rw [Bool.and_eq_true, Bool.and_eq_true] at e2
    obtain ⟨a, kvs, rfl, n, h2, _⟩ := hx.dicN R.sS
    obtain ⟨M, m1, m2, m3⟩ := h2.tups (Res.of_eq e1)
    have hB : ∀ k ∈ kk, k.length = (kk.headD [0]).length ∧ TS.Bd 64 k := fun k hk => tupB_of (List.all_eq_true.mp e2.2 k hk)
    have lM : M.length = kk.length := by rw [← m2, List.length_map]
    have memM : ∀ q ∈ M, q.2 ∈ kk := fun q hq => m2 ▸ List.mem_map.mpr ⟨q, hq, rfl⟩
    have nd : kk.Nodup := by
      have e := dkey_tups (Res.of_eq e1)
      rw [n.dk] at e
      have h1 : (kvs.map fun p => some p.1).Nodup := by
        have := n.nd
        rw [List.Nodup, List.pairwise_map] at this ⊢
        exact this.imp fun h z => h (Option.some.inj z)
      rw [e] at h1
      exact (List.pairwise_map.mp h1).imp fun h z => h (by rw [z])
    refine ⟨a, kvs, ks, M, (kk.headD [0]).length, rfl, n, m1, fun q hq => sqT_same R.sS (m3 q hq), by rw [lM]; exact of_decide_eq_true e2.1.1, of_decide_eq_true e2.1.2, fun q hq => hB _ (memM q hq), fun L p pm pw hp => ?_⟩
    have mem2 : ∀ q ∈ L, q.2 ∈ kk := fun q hq => memM q (pm.mem_iff.mp hq)
    have pk : (L.map (·.2)).Perm kk := by rw [← m2]; exact pm.map _
    have keys : L.map (·.2) = ascU (TS.code 64) kk := by
      refine asc_one (f := TS.code 64) ?_ (ascU_asc kk) (fun k hk => ascU_has (pk.mem_iff.mp hk)) (fun k hk => ⟨k, pk.mem_iff.mpr (ascU_sub hk), rfl⟩) fun x hx y hy e => ?_
      · rw [List.pairwise_map]
        have nd := List.pairwise_map.mp (show (L.map (·.2)).Pairwise (· ≠ ·) from pk.nodup_iff.mpr nd)
        refine List.Pairwise.imp_of_mem (fun {p r} hp hr h => ?_) (pw.and nd)
        rcases Int.lt_or_eq_of_le h.1 with z | z
        · exact z
        · exact absurd (code_eq ((hB _ (mem2 p hp)).1.trans (hB _ (mem2 r hr)).1.symm) (hB _ (mem2 p hp)).2 (hB _ (mem2 r hr)).2 z) h.2
      · have hx' := hB _ (pk.mem_iff.mp hx)
        have hy' := hB _ (ascU_sub hy)
        exact code_eq (hx'.1.trans hy'.1.symm) hx'.2 hy'.2 e
    have dr : DRs K T S (L.map fun q => V.ref q.1) ((ascU (TS.code 64) kk).map kD) := by
      rw [← keys, List.map_map]
      have := drs_of (K := K) (T := T) (S := S) (bs := L.map fun q => (V.ref q.1, kD q.2)) fun b hb => by
        obtain ⟨p, hp, rfl⟩ := List.mem_map.mp hb
        exact .tup (m3 p (pm.mem_iff.mp hp)) (drs_ints _)
      rw [List.map_map, List.map_map] at this
      exact this
    obtain ⟨R2, rv⟩ := new_lst R dr hp
    exact q _ _ _ (Same.refl S) R2 rv
section
variable {X : Cx} {T : Tab} {a : Expr} {f : AF} {p pos : Pos}
theorem ee_sortN (hc : X.calm = true) (hg : Gl X "sorted") (hm : X.mg "sorted" = none) (ha : PA X [a] (SA X.K T f)) (he : starEach [a] X.env = (false, eval a X.env) :: starEach [] X.env := by rfl) : PE X (.Call (.Name "sorted" p) [a] [] pos) (SE X.K T (eCB (c1 oSortN) f)) :=
  ee_callB (cr_sortN hc) (opC1 op_rSortN) hg hm (by decide +kernel) ha (he := he)
end
end Dt
end

section
set_option Elab.async false
set_option linter.all false
set_option maxRecDepth 100000
set_option maxHeartbeats 4000000
set_option autoImplicit false
namespace Dt
open PySem PySem.Spec PyProof.Rows L2

/-! ### sum, max, min of a list of ints -/
def D.nums : D → Option (List Int)
  | .lst xs => D.ints xs
  | .scr ns => some ns
  | _ => none
def oSum : D → Res RV := fun d => (Res.of d.nums).bind fun ns => .ok (.fro (.int ns.sum))
def maxI : List Int → Int
  | [] => 0
  | [x] => x
  | x :: y :: r => if maxI (y :: r) < x then x else maxI (y :: r)
def minI : List Int → Int
  | [] => 0
  | [x] => x
  | x :: y :: r => if x < minI (y :: r) then x else minI (y :: r)
theorem maxI_mem : ∀ {l : List Int}, l ≠ [] → maxI l ∈ l ∧ ∀ y ∈ l, y ≤ maxI l
  | [], h => absurd rfl h
  | [x], _ => ⟨List.mem_singleton.mpr rfl, fun y hy => by rw [List.mem_singleton.mp hy]; exact Int.le_refl _⟩
  | x :: y :: r, _ => by
    obtain ⟨h1, h2⟩ := maxI_mem (l := y :: r) (by simp)
    rw [maxI]
    split
    · refine ⟨List.mem_cons_self .., fun z hz => ?_⟩
      rcases List.mem_cons.mp hz with rfl | hz
      · exact Int.le_refl _
      · have := h2 z hz; omega
    · refine ⟨List.mem_cons_of_mem _ h1, fun z hz => ?_⟩
      rcases List.mem_cons.mp hz with rfl | hz
      · omega
      · exact h2 z hz
theorem minI_mem : ∀ {l : List Int}, l ≠ [] → minI l ∈ l ∧ ∀ y ∈ l, minI l ≤ y
  | [], h => absurd rfl h
  | [x], _ => ⟨List.mem_singleton.mpr rfl, fun y hy => by rw [List.mem_singleton.mp hy]; exact Int.le_refl _⟩
  | x :: y :: r, _ => by
    obtain ⟨h1, h2⟩ := minI_mem (l := y :: r) (by simp)
    rw [minI]
    split
    · refine ⟨List.mem_cons_self .., fun z hz => ?_⟩
      rcases List.mem_cons.mp hz with rfl | hz
      · exact Int.le_refl _
      · have := h2 z hz; omega
    · refine ⟨List.mem_cons_of_mem _ h1, fun z hz => ?_⟩
      rcases List.mem_cons.mp hz with rfl | hz
      · omega
      · exact h2 z hz
def oMaxL : D → Res RV := fun d => (Res.of d.nums).bind fun ns => (Res.need (decide (0 < ns.length))).bind fun _ => .ok (.fro (.int (maxI ns)))
def oMinL : D → Res RV := fun d => (Res.of d.nums).bind fun ns => (Res.need (decide (0 < ns.length))).bind fun _ => .ok (.fro (.int (minI ns)))
section
variable {K : PySem.W.Frag} {T : Tab}
theorem nums_rd {S H : Hp} {v : V} {d : D} {ns : List Int} (sS : Same S H) (h : RD K T S H v d) (e : d.nums = some ns) : ∃ a, v = .ref a ∧ SqL K H a (ns.map V.int) := by
  cases d <;> first | (cases e; done) | skip
  · obtain ⟨a, vs, rfl, h1, h2⟩ := h.lst sS
    obtain ⟨e1, _⟩ := h2.ints e
    subst e1
    exact ⟨a, rfl, .of h1⟩
  · cases e
    exact h.scr sS
theorem op_rSum : Op1 K T (fun x H Q => rSum K [x] H Q) oSum := by
  intro π F S ρ σ H x d res Q R hx hg q
  obtain ⟨ns, e1, hg⟩ := Res.bind_eq hg
  cases hg
  obtain ⟨a, rfl, h⟩ := nums_rd R.sS hx (Res.of_eq e1)
  exact ⟨a, ns, rfl, h, q S H _ (Same.refl S) R (.int _)⟩
theorem op_rMaxL : Op1 K T (fun x H Q => rMax K [x] H Q) oMaxL := by
  intro π F S ρ σ H x d res Q R hx hg q
  obtain ⟨ns, e1, hg⟩ := Res.bind_eq hg
  obtain ⟨_, e2, hg⟩ := Res.bind_eq hg
  cases hg
  obtain ⟨a, rfl, h⟩ := nums_rd R.sS hx (Res.of_eq e1)
  have hl := of_decide_eq_true (Res.need_eq e2)
  obtain ⟨h1, h2⟩ := maxI_mem (l := ns) (List.length_pos_iff.mp hl)
  refine ⟨a, ns, rfl, h, hl, fun m hm hb => ?_⟩
  have e : m = maxI ns := Int.le_antisymm (h2 m hm) (hb _ h1)
  subst e
  exact q S H _ (Same.refl S) R (.int _)
theorem op_rMinL : Op1 K T (fun x H Q => rMin K [x] H Q) oMinL := by
  intro π F S ρ σ H x d res Q R hx hg q
  obtain ⟨ns, e1, hg⟩ := Res.bind_eq hg
  obtain ⟨_, e2, hg⟩ := Res.bind_eq hg
  cases hg
  obtain ⟨a, rfl, h⟩ := nums_rd R.sS hx (Res.of_eq e1)
  have hl := of_decide_eq_true (Res.need_eq e2)
  obtain ⟨h1, h2⟩ := minI_mem (l := ns) (List.length_pos_iff.mp hl)
  refine ⟨a, ns, rfl, h, hl, fun m hm hb => ?_⟩
  have e : m = minI ns := Int.le_antisymm (hb _ h1) (h2 m hm)
  subst e
  exact q S H _ (Same.refl S) R (.int _)
end
section
variable {X : Cx} {T : Tab} {a : Expr} {f : AF} {p pos : Pos}
theorem ee_sum (hc : X.calm = true) (hg : Gl X "sum") (hm : X.mg "sum" = none) (ha : PA X [a] (SA X.K T f)) (he : starEach [a] X.env = (false, eval a X.env) :: starEach [] X.env := by rfl) : PE X (.Call (.Name "sum" p) [a] [] pos) (SE X.K T (eCB (c1 oSum) f)) :=
  ee_callB (cr_sum hc) (opC1 op_rSum) hg hm (by decide +kernel) ha (he := he)
theorem ee_maxL (hc : X.calm = true) (hg : Gl X "max") (hm : X.mg "max" = none) (ha : PA X [a] (SA X.K T f)) (he : starEach [a] X.env = (false, eval a X.env) :: starEach [] X.env := by rfl) : PE X (.Call (.Name "max" p) [a] [] pos) (SE X.K T (eCB (c1 oMaxL) f)) :=
  ee_callB (cr_max hc) (opC1 op_rMaxL) hg hm (by decide +kernel) ha (he := he)
end

/-! ### min of a list of tuples of ints -/
section
variable {P : Program} {w : World} {A : Around} {R : Result → Shared → Prop} {I l : Addr} {items : Array Value} {N : Nat} {k : Nat → List Int}
/-- the items are tuples of ints that were there before -/
def Tups (N : Nat) (items : Array Value) (k : Nat → List Int) (h : Heap) : Prop := ∀ (i : Nat) (v : Value), items[i]? = some v → ∃ (b : Addr) (xs : Array Value), v = .ref b ∧ b < N ∧ IsTup h b xs ∧ IntsAre xs.toList (k i)
theorem Tups.keep {h h' : Heap} (t : Tups N items k h) (e : ∀ b o, b < N → h.get? b = some o → h'.get? b = some o) : Tups N items k h' := fun i v hv => by
  obtain ⟨b, xs, h1, h2, ⟨o, h3, h4⟩, h5⟩ := t i v hv
  exact ⟨b, xs, h1, h2, ⟨o, e _ _ h2 h3, h4⟩, h5⟩
/-- the place of the least of the first j + 1 -/
def leastAt (k : Nat → List Int) : Nat → Nat
  | 0 => 0
  | j + 1 => if HT.lexLt (k (j + 1)) (k (leastAt k j)) then j + 1 else leastAt k j
theorem min_turns (hh : A.handled = none) (hlI : l ≠ I) {S : Addr} (hSI : S ≠ I) (hSl : S ≠ l) (hIN : N ≤ I) (hSN : N ≤ S) (hu : A.units + 1 < cLine) :
    ∀ (m j : Nat) (s : Shared) (vb : Value) (c : Nat), items.size - (j + 1) = m → j + 1 ≤ items.size → s.heap.IsListIter I l (j + 1) → s.heap.IsList l items → Tups N items k s.heap → items[leastAt k j]? = some vb →
    s.heap.get? S = some { cls := .type "list", dict := none, data := .seq #[vb, vb] c, slots := #[] } →
    (∀ v h' tk, items[leastAt k (items.size - 1)]? = some v → (∀ b o, b ≠ I → b ≠ S → s.heap.get? b = some o → h'.get? b = some o) → R (.ok (.ret v)) { s with heap := h', toks := tk }) →
    codeAny (model P w) A (.builtin "min.loop" ⟨[.ref I, .none, .ref S], []⟩) R s := by
  have hname : (toString "min" ++ toString ".loop" : String) = "min.loop" := by decide
  intro m
  induction m with
  | zero =>
    intro j s vb c hk hj hit hl ht hv hS hR
    have hin : j + 1 = items.size := by omega
    refine codeAny_builtin PySem.F.entry_min_loop ?_
    rw [Around.under_plainId PySem.F.plain_min_loop _]
    refine (show wpAny _ A.in1 (seqItems? (.ref S) >>= _) _ _ s from wpAny_bind (wpAny_seqItems hS rfl ?_))
    refine (show wpAny _ A.in1 (tryCatch (pyNext (.ref I)) _ >>= _) _ _ s from wpAny_bind (wpAny_tryCatch (wpAny_pyNext_list_end (A := A.in1) hh hit hl (Array.getElem?_eq_none (Nat.le_of_eq hin.symm)) fun h' he => ?_)))
    have hS' := he S _ hSI hS
    refine (show wpAny _ A.in1 (updateSeq S (fun _ => #[]) >>= _) _ _ _ from wpAny_bind (wpAny_updateSeq hS' rfl (wpAny_bind (wpAny_letGo (wpAny_pure ?_)))))
    refine hR vb _ s.toks (by rw [← hin]; exact hv) fun b o h1 h2 e => (Heap.get?_update_other _ _ (Ne.symm h2)).trans (he b o h1 e)
  | succ m ih =>
    intro j s vb c hk hj hit hl ht hv hS hR
    have hlt : j + 1 < items.size := by omega
    refine codeAny_builtin PySem.F.entry_min_loop ?_
    rw [Around.under_plainId PySem.F.plain_min_loop _]
    refine (show wpAny _ A.in1 (seqItems? (.ref S) >>= _) _ _ s from wpAny_bind (wpAny_seqItems hS rfl ?_))
    refine (show wpAny _ A.in1 (tryCatch (pyNext (.ref I)) _ >>= _) _ _ s from wpAny_bind (wpAny_tryCatch (wpAny_pyNext_list_item (x := items[j + 1]) hit hl (Array.getElem?_eq_getElem hlt) fun h1 hit1 hs1 => ?_)))
    have k1 : ∀ b o, b ≠ I → s.heap.get? b = some o → h1.get? b = some o := fun b o hb e => hs1.extBut b o hb e
    have hS' := k1 S _ hSI hS
    have hl1 : h1.IsList l items := hl.at fun o e => k1 l o hlI e
    have t1 : Tups N items k h1 := ht.keep fun b o hb e => k1 b o (Nat.ne_of_lt (Nat.lt_of_lt_of_le hb hIN)) e
    obtain ⟨b1, x1, e1, _, g1, i1⟩ := t1 (j + 1) items[j + 1] (Array.getElem?_eq_getElem hlt)
    obtain ⟨b2, x2, rfl, _, g2, i2⟩ := t1 (leastAt k j) vb hv
    rw [e1]
    refine (show wpAny _ A.in1 (tryCatch (holding [Value.ref b1, Value.ref b1] (richCompare .Lt (.ref b1) (.ref b2) >>= _)) _ >>= _) _ _ _ from wpAny_bind (wpAny_tryCatch (wpAny_holding (wpAny_bind (HT.lt_tupInts g1 g2 i1 i2 hu ?_)))))
    refine wpAny_bind (wpAny_holding (wpAny_truthy_bool (wpAny_bind (wpAny_letGo (wpAny_pure ?_)))))
    cases hb : HT.lexLt (k (j + 1)) (k (leastAt k j)) with
    | true =>
      have hla : leastAt k (j + 1) = j + 1 := by rw [leastAt, hb, if_pos rfl]
      simp only [if_true]
      refine wpAny_bind (wpAny_updateSeq hS' rfl (wpAny_bind (wpAny_letGo ?_)))
      rw [hname]
      refine wpAny_pure ⟨plainId_quiet PySem.F.plain_min_loop _, ih (j + 1) _ (.ref b1) _ (by omega) hlt (hit1.at fun o e => (Heap.get?_update_other _ _ hSI).trans e) (hl1.at fun o e => (Heap.get?_update_other _ _ hSl).trans e)
        (t1.keep fun b o hb e => (Heap.get?_update_other _ _ (Ne.symm (Nat.ne_of_lt (Nat.lt_of_lt_of_le hb hSN)))).trans e) (by rw [hla, ← e1]; exact Array.getElem?_eq_getElem hlt) (Heap.get?_update_self _ hS' rfl) fun v h' tk hv' kp => ?_⟩
      exact hR v h' tk hv' fun b o z1 z2 e => kp b o z1 z2 ((Heap.get?_update_other _ _ (Ne.symm z2)).trans (k1 b o z1 e))
    | false =>
      have hla : leastAt k (j + 1) = leastAt k j := by rw [leastAt, hb]; rfl
      simp only [Bool.false_eq_true, if_false]
      refine wpAny_bind (wpAny_letGo ?_)
      rw [hname]
      refine wpAny_pure ⟨plainId_quiet PySem.F.plain_min_loop _, ih (j + 1) _ (.ref b2) c (by omega) hlt hit1 hl1 t1 (by rw [hla]; exact hv) hS' fun v h' tk hv' kp => ?_⟩
      exact hR v h' tk hv' fun b o z1 z2 e => kp b o z1 z2 (k1 b o z1 e)
theorem min_first (hh : A.handled = none) (hlI : l ≠ I) {S : Addr} (hSI : S ≠ I) (hSl : S ≠ l) (hIN : N ≤ I) (hSN : N ≤ S) (hu : A.units + 1 < cLine) {s : Shared} {c : Nat} (hn : 0 < items.size) (hit : s.heap.IsListIter I l 0) (hl : s.heap.IsList l items) (ht : Tups N items k s.heap)
    (hS : s.heap.get? S = some { cls := .type "list", dict := none, data := .seq #[] c, slots := #[] })
    (hR : ∀ v h' tk, items[leastAt k (items.size - 1)]? = some v → (∀ b o, b ≠ I → b ≠ S → s.heap.get? b = some o → h'.get? b = some o) → R (.ok (.ret v)) { s with heap := h', toks := tk }) :
    codeAny (model P w) A (.builtin "min.loop" ⟨[.ref I, .none, .ref S], []⟩) R s := by
  have hname : (toString "min" ++ toString ".loop" : String) = "min.loop" := by decide
  refine codeAny_builtin PySem.F.entry_min_loop ?_
  rw [Around.under_plainId PySem.F.plain_min_loop _]
  refine (show wpAny _ A.in1 (seqItems? (.ref S) >>= _) _ _ s from wpAny_bind (wpAny_seqItems hS rfl ?_))
  refine (show wpAny _ A.in1 (tryCatch (pyNext (.ref I)) _ >>= _) _ _ s from wpAny_bind (wpAny_tryCatch (wpAny_pyNext_list_item (x := items[0]) hit hl (Array.getElem?_eq_getElem hn) fun h1 hit1 hs1 => ?_)))
  have k1 : ∀ b o, b ≠ I → s.heap.get? b = some o → h1.get? b = some o := fun b o hb e => hs1.extBut b o hb e
  have hS' := k1 S _ hSI hS
  have hl1 : h1.IsList l items := hl.at fun o e => k1 l o hlI e
  have t1 : Tups N items k h1 := ht.keep fun b o hb e => k1 b o (Nat.ne_of_lt (Nat.lt_of_lt_of_le hb hIN)) e
  refine (show wpAny _ A.in1 (updateSeq S (fun _ => #[items[0], items[0]]) >>= _) _ _ _ from wpAny_bind (wpAny_updateSeq hS' rfl ?_))
  rw [hname]
  refine wpAny_pure ⟨plainId_quiet PySem.F.plain_min_loop _, min_turns hh hlI hSI hSl hIN hSN hu _ 0 _ items[0] _ rfl hn (hit1.at fun o e => (Heap.get?_update_other _ _ hSI).trans e) (hl1.at fun o e => (Heap.get?_update_other _ _ hSl).trans e)
    (t1.keep fun b o hb e => (Heap.get?_update_other _ _ (Ne.symm (Nat.ne_of_lt (Nat.lt_of_lt_of_le hb hSN)))).trans e) (Array.getElem?_eq_getElem hn) (Heap.get?_update_self _ hS' rfl) fun v h' tk hv' kp => ?_⟩
  exact hR v h' tk hv' fun b o z1 z2 e => kp b o z1 z2 ((Heap.get?_update_other _ _ (Ne.symm z2)).trans (k1 b o z1 e))
theorem call_minT {E : Value → Shared → Prop} {s : Shared} {Q : Value → Shared → Prop} (hh : A.handled = none) (hu : A.units + 3 < cLine) (hl : s.heap.IsList l items) (hn : 0 < items.size) (ht : Tups s.heap.objs.size items k s.heap)
    (h : ∀ v h' tk, items[leastAt k (items.size - 1)]? = some v → (∀ b o, s.heap.get? b = some o → h'.get? b = some o) → Q v { s with heap := h', toks := tk }) : wpAny (model P w) A (call (.builtin "min") [.ref l]) Q E s := by
  have hname : (toString "min" ++ toString ".loop" : String) = "min.loop" := by decide
  have hlt : l < s.heap.objs.size := by
    obtain ⟨_, e, _⟩ := hl
    exact Heap.lt_size e
  refine call_function_tree PySem.F.kind_min PySem.F.plain_min PySem.F.entry_min (PySem.F.args_min1 _) ?_
  refine (show wpAny _ A.in1 (Builtin.Builtins.bindParams "min" ["key", "default"] 0 ⟨[], []⟩ >>= _) _ _ s from wpAny_bind (wpAny_of_eq (show Builtin.Builtins.bindParams "min" ["key", "default"] 0 ⟨[], []⟩ = pure [none, none] from rfl) (wpAny_bind (wpAny_pure ?_))))
  refine wpAny_bind (wpAny_pyIter_list hl (wpAny_bind (wpAny_newObj_type ?_)))
  have hz : (s.heap.push { cls := .type "list_iterator", data := .fields #[.ref l, .int 0 0] }).objs.size = s.heap.objs.size + 1 := size_push' _ _
  rw [hname]
  refine wpAny_pure ⟨plainId_quiet PySem.F.plain_min_loop _, ?_⟩
  have hp : ∀ b o, s.heap.get? b = some o → ((s.heap.push { cls := .type "list_iterator", data := .fields #[.ref l, .int 0 0] }).push { cls := .type "list", data := .seq #[] }).get? b = some o := fun b o e => Heap.get?_push_of_some _ (Heap.get?_push_of_some _ e)
  refine min_first (s := { s with heap := (s.heap.push { cls := .type "list_iterator", data := .fields #[.ref l, .int 0 0] }).push { cls := .type "list", data := .seq #[] } }) (N := s.heap.objs.size) (I := s.heap.objs.size) (A := A) hh (Nat.ne_of_lt hlt) (S := (s.heap.push { cls := .type "list_iterator", data := .fields #[.ref l, .int 0 0] }).objs.size) (by rw [hz]; exact Nat.ne_of_gt (Nat.lt_succ_self _)) (by rw [hz]; exact Nat.ne_of_gt (Nat.lt_succ_of_lt hlt)) (Nat.le_refl _) (by rw [hz]; exact Nat.le_succ _) (by omega) (c := 0) hn
    ⟨_, Heap.get?_push_of_some _ (Heap.get?_push_size _ rfl), rfl, rfl⟩ (hl.at fun o e => hp _ _ e) (ht.keep fun b o _ e => hp b o e) (Heap.get?_push_size _ rfl) fun v h' tk hv kp => ?_
  refine h v h' tk hv fun b o e => kp b o (Nat.ne_of_lt (Heap.lt_size e)) ?_ (hp b o e)
  rw [hz]
  exact Nat.ne_of_lt (Nat.lt_succ_of_lt (Heap.lt_size e))
end
def rMinT (K : PySem.W.Frag) : List V → Hp → VK → Prop := fun vs H Q => ∃ (a : Addr) (L : List (Addr × List Int)) (q : Addr × List Int), vs = [V.ref a] ∧ SqL K H a (L.map fun p => V.ref p.1) ∧ (∀ p ∈ L, SqT K H p.1 (p.2.map V.int)) ∧ L[leastAt (fun i => (L.map (·.2)).getD i []) (L.length - 1)]? = some q ∧ Q (.ref q.1) H
def oMinT : D → Res RV
  | .lst xs => (Res.of (D.tups xs)).bind fun ks => (Res.of ks[leastAt (fun i => ks.getD i []) (ks.length - 1)]?).bind fun k => .ok (.fro (kD k))
  | _ => .bad
section
variable {X : Cx} {T : Tab}
theorem cr_minT (hc : X.calm = true) (hu : X.A.units + 64 < cLine) : CallR X (.builtin "min") (rMinT X.K) := by
  intro pins s σ H vs us Q I r h
  obtain ⟨a, L, q, rfl, hs, ht, hq, qq⟩ := h
  obtain ⟨its, rv, hl, hz⟩ := I.list hs
  have ei : its = L.map fun p => Value.ref p.1 := refs_of_vals rv
  rw [Vals.ref1 r]
  have hn : 0 < its.toArray.size := by
    have := (List.getElem?_eq_some_iff.mp hq).1
    rw [List.size_toArray, ei, List.length_map]; omega
  have sz : its.toArray.size = L.length := by rw [List.size_toArray, ei, List.length_map]
  refine call_minT (k := fun i => (L.map (·.2)).getD i []) (I.ok.hd hc) (by omega) hl.isList hn (fun i v hv => ?_) fun v h' tk hv kp => ?_
  · rw [List.getElem?_toArray, ei, List.getElem?_map] at hv
    obtain ⟨p, hp, rfl⟩ := Option.map_eq_some_iff.mp hv
    obtain ⟨b, xs, e1, g, i1⟩ := tupI_raw I (t := p.1) (ns := p.2) (ht p (List.mem_of_getElem? hp))
    cases e1
    refine ⟨_, xs, rfl, g.lt, g, ?_⟩
    have : (L.map (·.2)).getD i [] = p.2 := by simp [List.getD_eq_getElem?_getD, hp]
    show IntsAre xs.toList ((L.map (·.2)).getD i [])
    rw [this]; exact i1
  · rw [sz, List.getElem?_toArray, ei, List.getElem?_map, hq] at hv
    cases hv
    exact ⟨.ref q.1, H, I.kept kp, rfl, qq⟩
end
theorem op_rMinT {K : PySem.W.Frag} {T : Tab} : Op1 K T (fun x H Q => rMinT K [x] H Q) oMinT := by
  intro π F S ρ σ H x d res Q R hx hg q
  cases d <;> first | (cases hg; done) | skip
  obtain ⟨ks, e1, hg⟩ := Res.bind_eq hg
  obtain ⟨k, e2, hg⟩ := Res.bind_eq hg
  cases hg
  obtain ⟨a, vs, rfl, h1, h2⟩ := hx.lst R.sS
  obtain ⟨L, rfl, l2, l3⟩ := h2.tups (Res.of_eq e1)
  have ll : ks.length = L.length := by rw [← l2, List.length_map]
  have e2 := Res.of_eq e2
  rw [ll, ← l2, List.getElem?_map] at e2
  obtain ⟨p, hp, rfl⟩ := Option.map_eq_some_iff.mp e2
  exact ⟨a, L, p, rfl, .of h1, fun q hq => sqT_same R.sS (l3 q hq), hp, q S H _ (Same.refl S) R (.tup (l3 p (List.mem_of_getElem? hp)) (drs_ints _))⟩
def oMinAny : D → Res RV := fun d => match d.nums with
  | some ns => (Res.need (decide (0 < ns.length))).bind fun _ => .ok (.fro (.int (minI ns)))
  | none => oMinT d
theorem op_rMinAny {K : PySem.W.Frag} {T : Tab} : Op1 K T (fun x H Q => rMin K [x] H Q ∨ rMinT K [x] H Q) oMinAny := by
  intro π F S ρ σ H x d res Q R hx hg q
  unfold oMinAny at hg
  split at hg
  · rename_i ns e
    refine .inl (op_rMinL π F S ρ σ H x d res Q R hx ?_ q)
    unfold oMinL
    rw [e]
    exact hg
  · exact .inr (op_rMinT π F S ρ σ H x d res Q R hx hg q)
section
variable {X : Cx} {T : Tab} {a : Expr} {f : AF} {p pos : Pos}
theorem ee_minL (hc : X.calm = true) (hu : X.A.units + 64 < cLine) (hg : Gl X "min") (hm : X.mg "min" = none) (ha : PA X [a] (SA X.K T f)) (he : starEach [a] X.env = (false, eval a X.env) :: starEach [] X.env := by rfl) : PE X (.Call (.Name "min" p) [a] [] pos) (SE X.K T (eCB (c1 oMinAny) f)) :=
  ee_callB ((cr_min hc).or (cr_minT hc hu)) (opC1 op_rMinAny) hg hm (by decide +kernel) ha (he := he)
end
end Dt
end

section
set_option Elab.async false
set_option linter.all false
set_option maxRecDepth 100000
set_option maxHeartbeats 4000000
set_option autoImplicit false
namespace Dt
open PySem PySem.Spec PyProof.Rows L2

/-! ### try: a body that raises nothing; what is never come to; tuples of texts in the module -/
section
variable {X : Cx} {T : Tab} {body : List Stmt} {h₀ : ExceptHandler} {hs : List ExceptHandler} {f : SF} {pos : Pos} {e : Expr}
theorem ss_try (hb : PSs X.nox body (SS X.K T f)) : PS X (.Try body (h₀ :: hs) [] [] pos) (SS X.K T f) := ps_try_thru0 hb
def eBad : EF := fun _ => .bad
theorem ee_bad : PE X e (SE X.K T eBad) := ⟨fun _ _ _ _ _ _ ⟨_, _, _, _, _, _, _, e, _⟩ => nomatch e⟩
end
/-- two names, one of them a cell -/
theorem ss_par2c {X : Cx} {T : Tab} {a b : Expr} {g : AF} {x y : Str} {px py pt pos pt2 : Pos} {i j kt k2 : Nat} (hc : X.calm = true) (hN : X.N.Nodup) (hi : X.N[i]? = some x) (hj : X.N[j]? = some y)
    (hx : Loc X.env.scope x) (hy : Loc X.env.scope y) (ha : PA X [a, b] (SO X.K T g))
    (hs : swapsWithSole [.Tuple [.Name x px, .Name y py] kt pt] (.Tuple [a, b] k2 pt2) pos.line X.env = pure false := by rfl)
    (hw : swappedStores [.Tuple [.Name x px, .Name y py] kt pt] (.Tuple [a, b] k2 pt2) X.env = pure none := by rfl)
    (h1 : (assignEach [.Tuple [.Name x px, .Name y py] kt pt] X.env).map (·.2) = [assign (.Tuple [.Name x px, .Name y py] kt pt) X.env] := by rfl)
    (f1 : X.fn x = true ∨ X.env.scope.names.lookup x = some .local := by first | exact .inl rfl | exact .inr rfl | assumption) (f2 : X.fn y = true ∨ X.env.scope.names.lookup y = some .local := by first | exact .inl rfl | exact .inr rfl | assumption)
    (n1 : (assignEach [.Name x px, .Name y py] X.env).length = 2 := by rfl) (n2 : (assignEach [.Name x px, .Name y py] X.env).findIdx? (·.1) = none := by rfl)
    (g1 : (assignEach [.Name x px, .Name y py] X.env).map (·.2) = assign (.Name x px) X.env :: (assignEach [.Name y py] X.env).map (·.2) := by rfl)
    (g4 : (assignEach [.Name y py] X.env).map (·.2) = assign (.Name y py) X.env :: (assignEach [] X.env).map (·.2) := by rfl) :
    PS X (.Assign [.Tuple [.Name x px, .Name y py] kt pt] (.Tuple [a, b] k2 pt2) pos) (SS X.K T (sParL [i, j] g)) :=
  (ps_asg (pe_tup ha) (pg_tup hc (pgs_cons (pg_name hN hi hx f1) (pgs_cons (pg_name hN hj hy f2) pgs_nil g4) g1) n1 n2) hs hw h1).imp fun D σ H ⟨π, F, S, ρ, fl, ρ', R, e, q⟩ => by
  obtain ⟨⟨rs, ρ1⟩, e1, e⟩ := Res.bind_eq e
  obtain ⟨cs, e2, e⟩ := Res.bind_eq e
  obtain ⟨_, e3, e⟩ := Res.bind_eq e
  cases e
  refine ⟨π, F, S, ρ, rs, ρ1, R, e1, fun S1 H1 vs s1 R1 oa => ?_⟩
  have l1 : vs.length = 2 := by
    rw [oa.length, ← storeCs_len (Res.of_eq e2)]
    simpa using Res.need_eq e3
  match vs, l1, oa with
  | [v1, v2], _, oa =>
    refine ⟨by show 2 ≤ sizeLine; decide, fun p hp => ?_⟩
    exact ⟨p, _, rfl, .of upd_same, rfl, _, _, rfl, _, _, rfl, rfl, q S1 _ _ s1 (Rel.storeAll (is := [i, j]) (R1.alloc hp) (oa.alloc hp) (Res.of_eq e2))⟩
theorem ss_par3c {X : Cx} {T : Tab} {a b c : Expr} {g : AF} {x y z : Str} {px py pz pt pos pt2 : Pos} {i j l kt k2 : Nat} (hc : X.calm = true) (hN : X.N.Nodup) (hi : X.N[i]? = some x) (hj : X.N[j]? = some y) (hl : X.N[l]? = some z)
    (hx : Loc X.env.scope x) (hy : Loc X.env.scope y) (hz : Loc X.env.scope z) (ha : PA X [a, b, c] (SO X.K T g))
    (hs : swapsWithSole [.Tuple [.Name x px, .Name y py, .Name z pz] kt pt] (.Tuple [a, b, c] k2 pt2) pos.line X.env = pure false := by rfl)
    (hw : swappedStores [.Tuple [.Name x px, .Name y py, .Name z pz] kt pt] (.Tuple [a, b, c] k2 pt2) X.env = pure none := by rfl)
    (h1 : (assignEach [.Tuple [.Name x px, .Name y py, .Name z pz] kt pt] X.env).map (·.2) = [assign (.Tuple [.Name x px, .Name y py, .Name z pz] kt pt) X.env] := by rfl)
    (f1 : X.fn x = true ∨ X.env.scope.names.lookup x = some .local := by first | exact .inl rfl | exact .inr rfl | assumption) (f2 : X.fn y = true ∨ X.env.scope.names.lookup y = some .local := by first | exact .inl rfl | exact .inr rfl | assumption)
    (f3 : X.fn z = true ∨ X.env.scope.names.lookup z = some .local := by first | exact .inl rfl | exact .inr rfl | assumption)
    (n1 : (assignEach [.Name x px, .Name y py, .Name z pz] X.env).length = 3 := by rfl) (n2 : (assignEach [.Name x px, .Name y py, .Name z pz] X.env).findIdx? (·.1) = none := by rfl)
    (g1 : (assignEach [.Name x px, .Name y py, .Name z pz] X.env).map (·.2) = assign (.Name x px) X.env :: (assignEach [.Name y py, .Name z pz] X.env).map (·.2) := by rfl)
    (g2 : (assignEach [.Name y py, .Name z pz] X.env).map (·.2) = assign (.Name y py) X.env :: (assignEach [.Name z pz] X.env).map (·.2) := by rfl)
    (g4 : (assignEach [.Name z pz] X.env).map (·.2) = assign (.Name z pz) X.env :: (assignEach [] X.env).map (·.2) := by rfl) :
    PS X (.Assign [.Tuple [.Name x px, .Name y py, .Name z pz] kt pt] (.Tuple [a, b, c] k2 pt2) pos) (SS X.K T (sParL [i, j, l] g)) :=
  (ps_asg (pe_tup ha) (pg_tup hc (pgs_cons (pg_name hN hi hx f1) (pgs_cons (pg_name hN hj hy f2) (pgs_cons (pg_name hN hl hz f3) pgs_nil g4) g2) g1) n1 n2) hs hw h1).imp fun D σ H ⟨π, F, S, ρ, fl, ρ', R, e, q⟩ => by
  obtain ⟨⟨rs, ρ1⟩, e1, e⟩ := Res.bind_eq e
  obtain ⟨cs, e2, e⟩ := Res.bind_eq e
  obtain ⟨_, e3, e⟩ := Res.bind_eq e
  cases e
  refine ⟨π, F, S, ρ, rs, ρ1, R, e1, fun S1 H1 vs s1 R1 oa => ?_⟩
  have l1 : vs.length = 3 := by
    rw [oa.length, ← storeCs_len (Res.of_eq e2)]
    simpa using Res.need_eq e3
  match vs, l1, oa with
  | [v1, v2, v3], _, oa =>
    refine ⟨by show 3 ≤ sizeLine; decide, fun p hp => ?_⟩
    exact ⟨p, _, rfl, .of upd_same, rfl, _, _, rfl, _, _, rfl, _, _, rfl, rfl, q S1 _ _ s1 (Rel.storeAll (is := [i, j, l]) (R1.alloc hp) (oa.alloc hp) (Res.of_eq e2))⟩
def GTup (K : PySem.W.Frag) (mg : Str → Option Value) (x : Str) (xs : List Str) : Prop := ∃ a, mg x = some (.ref a) ∧ ∃ o its n, K.lookup a = some o ∧ o.cls = .type "tuple" ∧ o.data = .seq its n ∧ its.size ≤ sizeLine ∧ Vals (xs.map V.str) its.toList
theorem dr_strs {K : PySem.W.Frag} {T : Tab} {S : Hp} : ∀ xs : List Str, DRs K T S (xs.map V.str) (xs.map D.str)
  | [] => .nil
  | x :: xs => .cons (.str x) (dr_strs xs)
theorem ee_gtup {X : Cx} {T : Tab} {x : Str} {xs : List Str} {pos : Pos} (hg : Gl X x) (h : GTup X.K X.mg x xs) (hd : (x == ("__debug__" : Str)) = false := by decide) : PE X (.Name x pos) (SE X.K T (eC (.tup (xs.map D.str)))) := by
  obtain ⟨a, ha, o, its, n, h1, h2, h3, h4, h5⟩ := h
  exact ee_C (v := .ref a) (C8.pe_gc hg ⟨_, ha, rfl⟩ hd) fun S => .tup (.inr ⟨o, its, n, h1, h2, h3, h4, h5⟩) (dr_strs xs)
def strsB : List Value → List Str → Bool
  | [], [] => true
  | .str y _ :: vs, x :: xs => decide (y = x) && strsB vs xs
  | _, _ => false
theorem strsB_ok : ∀ {vs : List Value} {xs : List Str}, strsB vs xs = true → Vals (xs.map V.str) vs
  | [], [], _ => .nil
  | v :: vs, [], h => by cases v <;> cases h
  | [], _ :: _, h => by cases h
  | v :: vs, x :: xs, h => by
    cases v <;> first | (cases h; done) | skip
    rename_i y t
    obtain ⟨h1, h2⟩ := He.ba (show (decide (y = x) && strsB vs xs) = true from h)
    exact .cons ⟨t, by rw [of_decide_eq_true h1]⟩ (strsB_ok h2)
def gtupB (K : PySem.W.Frag) (a : Addr) (xs : List Str) : Bool := match K.lookup a with
  | some ⟨.type t, _, .seq its _, _⟩ => decide (t = "tuple") && (decide (its.size ≤ 1000) && strsB its.toList xs)
  | _ => false
theorem gtupB_ok {K : PySem.W.Frag} {mg : Str → Option Value} {x : Str} {a : Addr} {xs : List Str} (hm : mg x = some (.ref a)) (h : gtupB K a xs = true) : GTup K mg x xs := by
  unfold gtupB at h
  split at h
  · rename_i t _ its n _ e
    obtain ⟨h1, h⟩ := He.ba h
    obtain ⟨h2, h3⟩ := He.ba h
    have h2 := of_decide_eq_true h2
    refine ⟨a, hm, _, its, n, e, ?_, rfl, by rw [sizeLine_eq]; omega, strsB_ok h3⟩
    rw [of_decide_eq_true h1]
  · cases h
end Dt
end

section
set_option Elab.async false
set_option linter.all false
set_option maxRecDepth 100000
set_option maxHeartbeats 4000000
set_option autoImplicit false
namespace Dt
open PySem PySem.Spec PyProof.Rows L2

/-! ### methods of frozen objects -/
def eMeth (c : Nat) (ff : Fm) (fe : EF) (fa : AF) : EF := fun ρ => (fe ρ).bind fun p => match p.1 with
  | .fro (.obj n ds) => (Res.need (n == c)).bind fun _ => (fa p.2).bind fun q => (Res.of (frozen q.1)).bind fun as => (ff (.fro (.obj n ds) :: as.map .fro)).bind fun z => (Res.need z.1.made).bind fun _ => .ok (z.1, q.2)
  | _ => .bad
section
variable {X : Cx} {CX : CXT} {T : Tab} {k c : Nat} {C f : Addr} {fd : FuncData} {ps : List Str} {E : XK} {m : Str} {e o : Expr} {es : List Expr} {pos apos : Pos} {fe : EF} {fa : AF} {ff : Fm}
theorem meth_run {σ : L2.St} {H : Hp} {Q : VK} (hm : (T.fl c).contains m = false) (q : SE X.K T (eMeth c ff fe fa) σ H Q) : tMeth (T.ca c) m (SpF X.K T ff) [] E (SE X.K T fe) (SA X.K T fa) σ H Q := by
  obtain ⟨π, F, S, ρ, r, ρ', R, e, q⟩ := q
  obtain ⟨⟨x, ρ1⟩, e1, e⟩ := Res.bind_eq e
  refine ⟨π, F, S, ρ, x, ρ1, R, e1, fun S1 H1 v s1 R1 rv => ?_⟩
  cases x <;> first | (cases e; done) | skip
  rename_i d
  cases d <;> first | (cases e; done) | skip
  rename_i n ds
  obtain ⟨_, e2, e⟩ := Res.bind_eq e
  obtain ⟨⟨rs, ρ2⟩, e3, e⟩ := Res.bind_eq e
  obtain ⟨as, e4, e⟩ := Res.bind_eq e
  obtain ⟨⟨r', cs'⟩, e5, e⟩ := Res.bind_eq e
  obtain ⟨_, e6, e⟩ := Res.bind_eq e
  cases e
  have en : n = c := beq_iff_eq.mp (Res.need_eq e2)
  subst en
  have rv : DR X.K T S1 v (.obj n ds) := rv
  cases rv with
  | obj h1 h2 h3 =>
    refine ⟨_, _, _, rfl, R1.sS _ _ h1, ?_, π, F, S1, ρ1, rs, _, R1, e3, fun S2 H2 vs s2 R2 hv => ?_⟩
    · rename_i fs
      refine List.lookup_eq_none_iff.mpr fun p hp => ?_
      have hmem : p.1 ∈ T.fl n := List.mem_of_mem_take (h2 ▸ List.mem_map.mpr ⟨p, hp, rfl⟩)
      have : ¬ (m = p.1) := fun e => by
        rw [← e] at hmem
        have := List.contains_iff_mem.mpr hmem
        rw [hm] at this
        cases this
      simpa using this
    · show SpF X.K T ff (_ :: (vs ++ [])) H2 Q E
      rw [List.append_nil]
      exact SpF.fros R2 (.cons (DR.mono s2 (.obj h1 h2 h3)) (hv.frozen (Res.of_eq e4))) e5 (Res.need_eq e6) fun S' H' v s R' rv => q S' H' v (s1.trans (s2.trans s)) R' rv
def aNo : AF := fun ρ => .ok ([], ρ)
theorem meth0_run {σ : L2.St} {H : Hp} {Q : VK} (hm : (T.fl c).contains m = false) (q : SE X.K T (eMeth c ff fe aNo) σ H Q) : tMeth (T.ca c) m (SpF X.K T ff) [] E (SE X.K T fe) tNil σ H Q := by
  obtain ⟨π, F, S, ρ, r, ρ', R, e, q⟩ := q
  obtain ⟨⟨x, ρ1⟩, e1, e⟩ := Res.bind_eq e
  refine ⟨π, F, S, ρ, x, ρ1, R, e1, fun S1 H1 v s1 R1 rv => ?_⟩
  cases x <;> first | (cases e; done) | skip
  rename_i d
  cases d <;> first | (cases e; done) | skip
  rename_i n ds
  obtain ⟨_, e2, e⟩ := Res.bind_eq e
  obtain ⟨⟨rs, ρ2⟩, e3, e⟩ := Res.bind_eq e
  obtain ⟨as, e4, e⟩ := Res.bind_eq e
  obtain ⟨⟨r', cs'⟩, e5, e⟩ := Res.bind_eq e
  obtain ⟨_, e6, e⟩ := Res.bind_eq e
  cases e
  cases e3
  cases Res.of_eq e4
  have en : n = c := beq_iff_eq.mp (Res.need_eq e2)
  subst en
  have rv : DR X.K T S1 v (.obj n ds) := rv
  cases rv with
  | obj h1 h2 h3 =>
    refine ⟨_, _, _, rfl, R1.sS _ _ h1, ?_, ?_⟩
    · rename_i fs
      refine List.lookup_eq_none_iff.mpr fun p hp => ?_
      have hmem : p.1 ∈ T.fl n := List.mem_of_mem_take (h2 ▸ List.mem_map.mpr ⟨p, hp, rfl⟩)
      have : ¬ (m = p.1) := fun e => by
        rw [← e] at hmem
        have := List.contains_iff_mem.mpr hmem
        rw [hm] at this
        cases this
      simpa using this
    · exact SpF.fros (E := E) R1 (.cons (.obj h1 h2 h3) .nil) e5 (Res.need_eq e6) fun S' H' v s R' rv => q S' H' v (s1.trans s) R' rv
/-- a method, by the object's class -/
def eMethD (tbl : List (Nat × Fm)) (fe : EF) (fa : AF) : EF := fun ρ => (fe ρ).bind fun p => match p.1 with
  | .fro (.obj n _) => (Res.of (tbl.find? fun q => q.1 == n)).bind fun q => eMeth q.1 q.2 fe fa ρ
  | _ => .bad
theorem methD_run {tbl : List (Nat × Fm)} {σ : L2.St} {H : Hp} {Q : VK} (q : SE X.K T (eMethD tbl fe fa) σ H Q) : ∃ p ∈ tbl, SE X.K T (eMeth p.1 p.2 fe fa) σ H Q := by
  obtain ⟨π, F, S, ρ, r, ρ', R, e, q⟩ := q
  obtain ⟨⟨x, ρ1⟩, e1, e⟩ := Res.bind_eq e
  cases x <;> first | (cases e; done) | skip
  rename_i d
  cases d <;> first | (cases e; done) | skip
  obtain ⟨p, e2, e⟩ := Res.bind_eq e
  exact ⟨p, List.mem_of_find?_eq_some (Res.of_eq e2), π, F, S, ρ, r, ρ', R, e, q⟩
theorem ee_methD1 {c1 : Nat} {f1 : Fm} (h1 : PE X e (SE X.K T (eMeth c1 f1 fe fa))) : PE X e (SE X.K T (eMethD [(c1, f1)] fe fa)) := ⟨fun pins s σ H Q I h => by
  obtain ⟨p, hp, q⟩ := methD_run h
  rcases List.mem_cons.mp hp with rfl | hp
  · exact h1.run pins s σ H Q I q
  · cases hp⟩
theorem ee_methD2 {c1 c2 : Nat} {f1 f2 : Fm} (h1 : PE X e (SE X.K T (eMeth c1 f1 fe fa))) (h2 : PE X e (SE X.K T (eMeth c2 f2 fe fa))) : PE X e (SE X.K T (eMethD [(c1, f1), (c2, f2)] fe fa)) := ⟨fun pins s σ H Q I h => by
  obtain ⟨p, hp, q⟩ := methD_run h
  rcases List.mem_cons.mp hp with rfl | hp
  · exact h1.run pins s σ H Q I q
  · rcases List.mem_cons.mp hp with rfl | hp
    · exact h2.run pins s σ H Q I q
    · cases hp⟩
theorem ee_methD3 {c1 c2 c3 : Nat} {f1 f2 f3 : Fm} (h1 : PE X e (SE X.K T (eMeth c1 f1 fe fa))) (h2 : PE X e (SE X.K T (eMeth c2 f2 fe fa))) (h3 : PE X e (SE X.K T (eMeth c3 f3 fe fa))) : PE X e (SE X.K T (eMethD [(c1, f1), (c2, f2), (c3, f3)] fe fa)) := ⟨fun pins s σ H Q I h => by
  obtain ⟨p, hp, q⟩ := methD_run h
  rcases List.mem_cons.mp hp with rfl | hp
  · exact h1.run pins s σ H Q I q
  · rcases List.mem_cons.mp hp with rfl | hp
    · exact h2.run pins s σ H Q I q
    · rcases List.mem_cons.mp hp with rfl | hp
      · exact h3.run pins s σ H Q I q
      · cases hp⟩
end
end Dt
end

section
set_option Elab.async false
set_option linter.all false
set_option maxRecDepth 100000
set_option maxHeartbeats 4000000
set_option autoImplicit false
namespace Dt
open PySem PySem.Spec PyProof.Rows L2

/-! ### texts and pairs of ints of a module -/
theorem ee_gstr {X : Cx} {T : Tab} {x z : Str} {pos : Pos} (hg : Gl X x) (h : ∃ t, X.mg x = some (.str z t)) (hd : (x == ("__debug__" : Str)) = false := by decide) : PE X (.Name x pos) (SE X.K T (eC (.str z))) :=
  ee_C (v := .str z) (C8.pe_gc hg (by obtain ⟨t, h⟩ := h; exact ⟨_, h, t, rfl⟩) hd) fun _ => .str z
def GTupI (K : PySem.W.Frag) (mg : Str → Option Value) (x : Str) (xs : List Int) : Prop := ∃ a, mg x = some (.ref a) ∧ ∃ o its n, K.lookup a = some o ∧ o.cls = .type "tuple" ∧ o.data = .seq its n ∧ its.size ≤ sizeLine ∧ Vals (xs.map V.int) its.toList
theorem ee_gtupI {X : Cx} {T : Tab} {x : Str} {xs : List Int} {pos : Pos} (hg : Gl X x) (h : GTupI X.K X.mg x xs) (hd : (x == ("__debug__" : Str)) = false := by decide) : PE X (.Name x pos) (SE X.K T (eC (.tup (xs.map D.int)))) := by
  obtain ⟨a, ha, o, its, n, h1, h2, h3, h4, h5⟩ := h
  exact ee_C (v := .ref a) (C8.pe_gc hg ⟨_, ha, rfl⟩ hd) fun S => .tup (.inr ⟨o, its, n, h1, h2, h3, h4, h5⟩) (drs_ints xs)
def intsB : List Value → List Int → Bool
  | [], [] => true
  | .int y _ :: vs, x :: xs => decide (y = x) && intsB vs xs
  | _, _ => false
theorem intsB_ok : ∀ {vs : List Value} {xs : List Int}, intsB vs xs = true → Vals (xs.map V.int) vs
  | [], [], _ => .nil
  | v :: vs, [], h => by cases v <;> cases h
  | [], _ :: _, h => by cases h
  | v :: vs, x :: xs, h => by
    cases v <;> first | (cases h; done) | skip
    rename_i y t
    obtain ⟨h1, h2⟩ := He.ba (show (decide (y = x) && intsB vs xs) = true from h)
    exact .cons ⟨t, by rw [of_decide_eq_true h1]⟩ (intsB_ok h2)
def gtupIB (K : PySem.W.Frag) (a : Addr) (xs : List Int) : Bool := match K.lookup a with
  | some ⟨.type t, _, .seq its _, _⟩ => decide (t = "tuple") && (decide (its.size ≤ 1000) && intsB its.toList xs)
  | _ => false
theorem gtupIB_ok {K : PySem.W.Frag} {mg : Str → Option Value} {x : Str} {a : Addr} {xs : List Int} (hm : mg x = some (.ref a)) (h : gtupIB K a xs = true) : GTupI K mg x xs := by
  unfold gtupIB at h
  split at h
  · rename_i t _ its n _ e
    obtain ⟨h1, h⟩ := He.ba h
    obtain ⟨h2, h3⟩ := He.ba h
    have h2 := of_decide_eq_true h2
    refine ⟨a, hm, _, its, n, e, ?_, rfl, by rw [sizeLine_eq]; omega, intsB_ok h3⟩
    rw [of_decide_eq_true h1]
  · cases h
end Dt
end

section
set_option Elab.async false
set_option linter.all false
set_option maxRecDepth 100000
set_option maxHeartbeats 4000000
set_option autoImplicit false
namespace Dt
open PySem PySem.Spec PyProof.Rows L2

/-! ### d.get(k, x), d.get(k) -/
def D.isDic : D → Bool
  | .dic _ _ _ => true
  | _ => false
def isDx (K : PySem.W.Frag) (T : Tab) (H : Hp) (a : Addr) : Prop := IsD H a ∨ ∃ kvs ks, NDic K T H a kvs ks
def rGet2 (K : PySem.W.Frag) (T : Tab) (x y z : V) (H : Hp) (Q : VK) : Prop := (∃ a o, x = .ref a ∧ DGet H a y o ∧ Q (o.getD z) H) ∨
  ∃ (a b : Addr) (kvs : List (NestedKey × Addr × V)) (ks : List D) (k : NestedKey), x = .ref a ∧ NDic K T H a kvs ks ∧ rNKey K T y H k b ∧ Q ((valV (prs kvs) k).getD z) H
def tG2 (K : PySem.W.Frag) (T : Tab) (td ty tx : TE) : TE := fun σ H Q => td σ H fun x H1 => ∃ a, x = .ref a ∧ isDx K T H1 a ∧ ty σ H1 fun y H2 => tx σ H2 fun z H3 => rGet2 K T x y z H3 Q
section
variable {X : Cx} {T : Tab} {o e f : Expr} {apos cpos : Pos} {td ty tx : TE}
theorem isDx_at {pins : List (Addr × Obj)} {σ : L2.St} {H : Hp} {s : Shared} {a : Addr} (I : L2.Inv X pins σ H s) (d : isDx X.K T H a) :
    s.TypeIs (.ref a) "dict" ∧ (∀ b, Value.ref a = .ref b → ∃ ob, s.heap.get? b = some ob ∧ ob.dict = none) := by
  rcases d with d | ⟨kvs, ks, n⟩
  · obtain ⟨t1, t2, _⟩ := isD_at I d
    exact ⟨t1, t2⟩
  · obtain ⟨xs, hp, dd⟩ := dicN_at I n.at_ n.dr n.dk n.d8 n.nd
    refine ⟨dd.typeIs, fun b q => ?_⟩
    cases q
    obtain ⟨ob, _, _, h1, h2, _⟩ := dd
    exact ⟨ob, h1, h2.2.1⟩
theorem g_get2 {pins : List (Addr × Obj)} {σ : L2.St} {H : Hp} {s : Shared} {x y z : V} {v u r : Value} {Q : VK} {A : Around} {E : Value → Shared → Prop} (hu : A.units + 64 < cLine) (I : L2.Inv X pins σ H s) (rx : RelV x v) (ry : RelV y u) (rz : RelV z r) (h : rGet2 X.K T x y z H Q) :
    wpAny (model X.prog X.w) A (call (.builtin "dict.get") [v, u, r]) (EP X pins σ Q) E s := by
  rcases h with ⟨a, o, rfl, g, q⟩ | ⟨a, t, kvs, ks, k, rfl, n, ⟨d, rfl, g1, g2, g3⟩, q⟩
  · obtain rfl : v = Value.ref a := rx
    exact d_get2 (by omega) I g ry rz fun w' s' I' rw' => ⟨_, H, I', rw', q⟩
  · obtain rfl : v = Value.ref a := rx
    obtain rfl : u = Value.ref t := ry
    obtain ⟨xs, hp, dd⟩ := dicN_at I n.at_ n.dr n.dk n.d8 n.nd
    exact call_meetsIn PySem.F.slot_dict_get dd.typeIs PySem.F.entry_dict_get (PySem.F.args_dict_get_3 _ _ _) (meetsH_dict_get_default (nestedKind X.prog X.w) a t n.sy r) ⟨(by show A.units + 1 + 8 < cLine; omega), k, xs, ⟨DR.nested I g1 g2 rfl, g3⟩, dd, _, H, I.tok _, (hp.find k).getD rz, q⟩
theorem pe_g2 (hu : X.A.units + 64 < cLine) (ho : PE X o td) (he : PE X e ty) (hf : PE X f tx) (m : M2 X o "get" apos e f cpos) : PE X (.Call (.Attribute o "get" apos) [e, f] [] cpos) (tG2 X.K T td ty tx) := by
  refine ⟨fun pins s σ H Q I h => ?_⟩
  refine wpAny_Call_method m.base m.few m.line PySem.F.plainAttrs_dict PySem.F.slot_dict_get PySem.F.type_dict_get (thn (ho.run pins s σ H _ I h) fun u s1 ⟨x, H1, I1, rx, a, ex, d, q1⟩ => ?_)
  subst ex
  obtain rfl : u = Value.ref a := rx
  obtain ⟨t1, t2⟩ := isDx_at I1 d
  refine ⟨t1, t2, ?_⟩
  rw [m.trees]
  refine Calls.callWith_builtin rfl (Calls.evalArgs_plain (Calls.spliced_cons (thn (he.run pins s1 σ H1 _ I1 q1) fun iv s2 ⟨y, H2, I2, ry, q2⟩ =>
    Calls.spliced_cons (thn (hf.run pins s2 σ H2 _ I2 q2) fun fv s3 ⟨z, H3, I3, rz, q3⟩ => Calls.spliced_nil ?_))))
  exact g_get2 hu I3 (show L2.RelV (V.ref a) (Value.ref a) from rfl) ry rz q3
end
def dGetD (d k : D) (z : RV) : Res RV := match d with
  | .dic b ks vs => (Res.need (okKey b k)).bind fun _ => match dFind b ks vs k with
    | some x => .ok (.fro x)
    | none => .ok z
  | _ => .bad
def eGet2 (fo fk fx : EF) : EF := fun ρ => (fo ρ).bind fun (x, ρ1) => (Res.of (deref ρ1 x.hold)).bind fun d0 => (Res.need d0.isDic).bind fun _ => (fk ρ1).bind fun (y, ρ2) => (fx ρ2).bind fun (z, ρ3) => (Res.of (deref ρ3 x.hold)).bind fun d => (Res.of (deref ρ3 y.hold)).bind fun k => (dGetD d k z).bind fun r => .ok (r, ρ3)
section
variable {K : PySem.W.Frag} {T : Tab}
theorem isDx_of {S H : Hp} {v : V} {d : D} (sS : Same S H) (h : RD K T S H v d) (e : d.isDic = true) : ∃ a, v = .ref a ∧ isDx K T H a := by
  cases d <;> first | (cases e; done) | skip
  rename_i b ks vs
  cases b with
  | false =>
    obtain ⟨a, kvs, rfl, h1, rfl, h3⟩ := h.dicK sS
    exact ⟨a, rfl, .inl (.inl ⟨kvs, .inl h1⟩)⟩
  | true =>
    obtain ⟨a, kvs, rfl, h1, h2, h3⟩ := h.dicN sS
    exact ⟨a, rfl, .inr ⟨kvs, ks, h1⟩⟩
theorem get2_run {fo fk fx : EF} {σ : L2.St} {H : Hp} {Q : VK} (q : SE K T (eGet2 fo fk fx) σ H Q) : tG2 K T (SE K T fo) (SE K T fk) (SE K T fx) σ H Q := by
  obtain ⟨π, F, S, ρ, res, ρ', R, e, q⟩ := q
  obtain ⟨⟨x, ρ1⟩, ea, e⟩ := Res.bind_eq e
  obtain ⟨d0, e0, e⟩ := Res.bind_eq e
  obtain ⟨_, en, e⟩ := Res.bind_eq e
  obtain ⟨⟨y, ρ2⟩, eb, e⟩ := Res.bind_eq e
  obtain ⟨⟨z, ρ3⟩, ec, e⟩ := Res.bind_eq e
  obtain ⟨d, ed, e⟩ := Res.bind_eq e
  obtain ⟨k, ek, e⟩ := Res.bind_eq e
  obtain ⟨res', eg, e⟩ := Res.bind_eq e
  cases e
  refine ⟨π, F, S, ρ, x, _, R, ea, fun S1 H1 v s1 R1 rv => ?_⟩
  obtain ⟨S2, s2, R2, hv⟩ := rv.hold R1
  obtain ⟨a, rfl, hd⟩ := isDx_of R2.sS (hv.rd R2 (Res.of_eq e0)) (Res.need_eq en)
  refine ⟨a, rfl, hd, π, F, S2, _, y, _, R2, eb, fun S3 H3 u s3 R3 ru => ?_⟩
  obtain ⟨S4, s4, R4, hu⟩ := ru.hold R3
  refine ⟨π, F, S4, _, z, _, R4, ec, fun S5 H5 w s5 R5 rw5 => ?_⟩
  have rd := (hv.mono (s3.trans (s4.trans s5))).rd R5 (Res.of_eq ed)
  have rk := (hu.mono s5).rd R5 (Res.of_eq ek)
  have sAll := s1.trans (s2.trans (s3.trans (s4.trans s5)))
  obtain ⟨b, ks, vs, rfl⟩ : ∃ b ks vs, d = .dic b ks vs := by
    cases d <;> first | (cases eg; done) | exact ⟨_, _, _, rfl⟩
  obtain ⟨_, eo, eg⟩ := Res.bind_eq (show (Res.need (okKey b k)).bind (fun _ => match dFind b ks vs k with
    | some x => Res.ok (.fro x)
    | none => .ok z) = .ok _ from eg)
  cases b with
  | false =>
    obtain ⟨c, o, e1, g, h⟩ := findK R5.sS rd rk (Res.need_eq eo)
    cases e1
    refine .inl ⟨a, o, rfl, g, ?_⟩
    rcases h with ⟨rfl, h⟩ | ⟨v', d', rfl, h2, h3⟩
    · rw [h] at eg
      cases eg
      exact q S5 H5 w sAll R5 rw5
    · rw [h2] at eg
      cases eg
      exact q S5 H5 v' sAll R5 h3
  | true =>
    obtain ⟨c, b', kvs, key, e1, g1, g2, h⟩ := findN R5.sS rd rk (Res.need_eq eo)
    cases e1
    refine .inr ⟨a, b', kvs, ks, key, rfl, g1, g2, ?_⟩
    rcases h with ⟨h1, h⟩ | ⟨v', d', h1, h2, h3⟩
    · rw [h] at eg
      cases eg
      rw [h1]
      exact q S5 H5 w sAll R5 rw5
    · rw [h2] at eg
      cases eg
      rw [h1]
      exact q S5 H5 v' sAll R5 h3
end
section
variable {X : Cx} {T : Tab} {o e f : Expr} {apos cpos : Pos} {fo fk fx : EF}
theorem ee_get2 (hu : X.A.units + 64 < cLine) (ho : PE X o (SE X.K T fo)) (he : PE X e (SE X.K T fk)) (hf : PE X f (SE X.K T fx)) (m : M2 X o "get" apos e f cpos) : PE X (.Call (.Attribute o "get" apos) [e, f] [] cpos) (SE X.K T (eGet2 fo fk fx)) := (pe_g2 hu ho he hf m).imp fun _ _ _ q => get2_run q
end
end Dt
end

section
set_option Elab.async false
set_option linter.all false
set_option maxRecDepth 100000
set_option maxHeartbeats 4000000
set_option autoImplicit false
namespace Dt
open PySem PySem.Spec PyProof.Rows L2

/-! ### {k: v for .. in ..}, keys ints and texts -/
def dcL (g : GF) (vs : List Nat) (tt : BF) (tk tv : EF) : List D → Env → List D → List D → Res ((List D × List D) × Env)
  | [], ρ, ks, ws => .ok ((ks, ws), ρ)
  | d :: ds, ρ, ks, ws => (g d ρ).bind fun ρ1 => (tt ρ1).bind fun p => if p.1 = true then
      (tk p.2).bind fun q => (Res.of q.1.take).bind fun k => (Res.need (keyOf k).isSome).bind fun _ => (tv q.2).bind fun z => (Res.of z.1.take).bind fun x => if ks.length < sizeLine then dcL g vs tt tk tv ds (wipeE z.2 vs) (dPut false ks ws k x).1 (dPut false ks ws k x).2 else .bad
    else dcL g vs tt tk tv ds (wipeE p.2 vs) ks ws
def eDc (g : GF) (vs : List Nat) (src : IF) (tt : BF) (tk tv : EF) : EF := fun ρ => (src ρ).bind fun p => (dcL g vs tt tk tv p.1 (wipeE p.2 vs) [] []).bind fun q => .ok (.own (.dic false q.1.1 q.1.2), q.2)
section
variable {K : PySem.W.Frag} {T : Tab} {π σ : L2.St} {F S H : Hp} {ρ : Env} {A : Addr}
abbrev ksOf (kvs : List (Key × V)) : List D := kvs.map fun p => keyD p.1
theorem kd_all : ∀ l : List (Key × V), DRs K T S (l.map fun p => kV p.1) (ksOf l)
  | [] => .nil
  | p :: l => .cons (dr_key p.1) (kd_all l)
theorem node_K {kvs : List (Key × V)} {vs : List D} (hA : H A = some (.dK kvs)) (h : DRs K T S (kvs.map (·.2)) vs) : Node K T S H A (.dic false (ksOf kvs) vs) := ⟨_, kvs.map fun p => kV p.1, _, hA, .k A _, kd_all kvs, h⟩
theorem put_K {kvs : List (Key × V)} {vs : List D} {k x : D} {key : Key} {v : V} (ek : keyOf k = some key) (hx : DR K T S v x) (h : DRs K T S (kvs.map (·.2)) vs) : (dPut false (ksOf kvs) vs k x).1 = ksOf (putK kvs key v) ∧ DRs K T S ((putK kvs key v).map (·.2)) (dPut false (ksOf kvs) vs k x).2 := by
  obtain ⟨q1, q2⟩ := dPut_rel heK (keyOf_eq ek) hx (krK_keys kvs) h
  have kr := krK_eq q1
  rw [List.map_map] at kr
  exact ⟨kr, q2⟩
theorem dc_put {kvs kvs' : List (Key × V)} {vs : List D} (nF : F A = none) (R : Rel K T π (upd F A (.dK kvs)) S ρ σ H) (ha : DRs K T S (kvs.map (·.2)) vs) :
    Rel K T π F S ρ σ (upd H A (.dK kvs')) ∧ S A = none ∧ Apart ρ σ A ∧ H A = some (.dK kvs) := by
  obtain ⟨R1, hA, nS, ap⟩ := Rel.unlend nF R
  refine ⟨R1.step (Same.refl S) (fun b x q => ?_) (fun b x q => ?_) R1.dj R1.nS (tabs_keep (S := S) (d := .dic false (ksOf kvs) vs) R1.tb (node_K hA ha) fun b hb => upd_ne hb) fun i c b hc m e => ?_, nS, ap, hA⟩
  · rw [upd_ne (ne_of_none q nS)]; exact R1.sS _ _ q
  · rw [upd_ne (ne_of_none q nF)]; exact R1.sF _ _ q
  · exact ⟨upd_ne fun z => ap i c hc m (by rw [e, z]), (R1.ownAt hc m e).1⟩
end
section
variable {X : Cx} {T : Tab} {kx vx tg iter : Expr} {ifs : List Expr} {scope : Scope} {own : List (Str × Nat)} {pos : Pos} {g : GF} {is : List Nat} {src : IF} {ft : BF} {fk fv : EF}
theorem dc_run {K : PySem.W.Frag} {vs : List Nat} (hvs : ∀ i ∈ is, i ∈ vs) {σ : L2.St} {H : Hp} {Q : VK} (h : SE K T (eDc g vs src ft fk fv) σ H Q) : tDc (SI K T src) (SG K T g is) (ST K T ft) (SE K T fk) (SE K T fv) vs σ H Q := by
  obtain ⟨π, F, S, ρ, r, ρ', Re, e, q⟩ := h
  obtain ⟨⟨ds, ρ1⟩, e1, e⟩ := Res.bind_eq e
  obtain ⟨⟨⟨outK, outV⟩, ρ2⟩, e2, e⟩ := Res.bind_eq e
  cases e
  refine ⟨π, F, S, ρ, ds, ρ1, Re, e1, fun S0 H0 J s0 R0 ok => ?_⟩
  intro A hA
  have hw : ∀ (τ : L2.St) i, i ∉ vs → (wipe τ vs)[i]? = τ[i]? := fun τ i hi => wipe_out hi
  let W : Nat → Nat → Hp → Prop := fun i m H => m = ds.length - i ∧ i ≤ ds.length ∧ ∃ S1 ρ3 kvs ws, Same S0 S1 ∧ Rel K T π F S1 ρ3 (wipe σ vs) H ∧ H A = some (.dK kvs) ∧ S1 A = none ∧ F A = none ∧ Apart ρ3 (wipe σ vs) A ∧ DRs K T S1 (kvs.map (·.2)) ws ∧
    (∀ i ∈ vs, ∀ c, ρ3[i]? = some c → c = .un) ∧ dcL g vs ft fk fv (ds.drop i) ρ3 (ksOf kvs) ws = .ok ((outK, outV), ρ2)
  have wun : ∀ (τ : Env), ∀ i ∈ vs, ∀ c, (wipeE τ vs)[i]? = some c → c = .un := fun τ i hi c hc => by
    rcases wipeE_get hc with z | ⟨_, n⟩
    · exact z
    · exact absurd hi n
  refine ⟨W, ⟨_, rfl, Nat.zero_le _, S0, wipeE ρ1 vs, [], [], Same.refl _, (R0.alloc hA).wipe vs (wipe_length _ _) (hw σ), upd_same, same_none R0.sS hA, same_none R0.sF hA, (R0.apart hA).wipe vs (hw σ), .nil, wun ρ1, e2⟩, ?_⟩
  rintro i m H1 ⟨rfl, hi, S1, ρ3, kvs, ws, s1, R1, hA1, nS, nF, ap, hacc, hun, e3⟩
  by_cases hl : i < ds.length
  · refine .inr ?_
    have hd : ds[i]? = some ds[i] := List.getElem?_eq_getElem hl
    obtain ⟨go, yl⟩ := ok.2 i _ hd H1 (s1.trans R1.sS)
    refine ⟨go, fun H' => W (i + 1) (ds.length - (i + 1)) H', fun H' h => ⟨_, by omega, h⟩, fun x H' hy => ?_⟩
    rw [List.drop_eq_getElem_cons hl] at e3
    obtain ⟨ρ4, e4, e5⟩ := Res.bind_eq e3
    obtain ⟨⟨b, ρ5⟩, e6, e7⟩ := Res.bind_eq e5
    have hx := (yl x H' hy).mono s1
    have RL := R1.lend (d := .dic false (ksOf kvs) ws) ⟨nS, nF, node_K hA1 hacc⟩ ap hA1
    obtain ⟨S2, s2, R2, dx, _⟩ := came RL hx
    refine ⟨π, _, S2, ρ3, ds[i], ρ4, R2, dx, e4, fun σ2 R3 w => ?_⟩
    have w2 := w vs hvs
    rw [wipe_wipe] at w2
    refine ⟨w2, ?_⟩
    have hσ : ∀ k, k ∉ vs → (wipe σ vs)[k]? = σ2[k]? := fun k hk => by rw [← w2]; exact hw σ2 k hk
    have hl2 : (wipe σ vs).length = σ2.length := by rw [← w2, wipe_length]
    refine ⟨π, _, S2, ρ4, b, ρ5, R3, e6, fun S3 H3 s3 R4 => ?_⟩
    cases b with
    | false =>
      refine ⟨rfl, hl, S3, wipeE ρ5 vs, kvs, ws, s1.trans (s2.trans s3), ?_, ?_, ?_, nF, ?_, hacc.mono (s2.trans s3), wun ρ5, e7⟩
      · exact (Rel.unlend nF R4).1.wipe vs hl2 hσ
      · exact (Rel.unlend nF R4).2.1
      · exact (Rel.unlend nF R4).2.2.1
      · exact (Rel.unlend nF R4).2.2.2.wipe vs hσ
    | true =>
      obtain ⟨⟨rk, ρ6⟩, e8, e9⟩ := Res.bind_eq (show (fk ρ5).bind _ = _ from e7)
      obtain ⟨k, e10, e11⟩ := Res.bind_eq e9
      obtain ⟨_, e12, e13⟩ := Res.bind_eq e11
      obtain ⟨⟨rv, ρ7⟩, e14, e15⟩ := Res.bind_eq e13
      obtain ⟨y, e16, e17⟩ := Res.bind_eq e15
      obtain ⟨key, ek⟩ := Option.isSome_iff_exists.mp (Res.need_eq e12)
      refine ⟨π, _, S3, ρ5, rk, ρ6, R4, e8, fun S4 H4 vk s4 R5 rk' => ?_⟩
      obtain ⟨S5, s5, R6, hk⟩ := rk'.take R5 (Res.of_eq e10)
      refine ⟨π, _, S5, ρ6, rv, ρ7, R6, e14, fun S6 H6 vv s6 R7 rv' => ?_⟩
      obtain ⟨S7, s7, R8, hv⟩ := rv'.take R7 (Res.of_eq e16)
      have sA := s2.trans (s3.trans (s4.trans (s5.trans (s6.trans s7))))
      have hacc7 := hacc.mono sA
      have eyk := keyV (H := S5) (S := S5) (.inl hk) ek
      subst eyk
      obtain ⟨p1, p2⟩ := put_K (v := vv) ek hv hacc7
      obtain ⟨R9, nS7, ap7, hA7⟩ := dc_put (kvs' := putK kvs key vv) nF R8 hacc7
      have e17 : (if (ksOf kvs).length < sizeLine then dcL g vs ft fk fv (ds.drop (i + 1)) (wipeE ρ7 vs) (dPut false (ksOf kvs) ws k y).1 (dPut false (ksOf kvs) ws k y).2 else .bad) = .ok ((outK, outV), ρ2) := e17
      split at e17
      · rename_i hz
        rw [List.length_map] at hz
        rw [p1] at e17
        exact ⟨kvs, key, rfl, hA7, hz, rfl, hl, S7, wipeE ρ7 vs, putK kvs key vv, _, s1.trans sA, R9.wipe vs hl2 hσ, upd_same, nS7, nF, ap7.wipe vs hσ, p2, wun ρ7, e17⟩
      · cases e17
  · have ei : i = ds.length := by omega
    subst ei
    rw [List.drop_length] at e3
    cases e3
    have R2 : Rel K T π F S1 ρ2 σ H1 := by
      refine ⟨R1.sS, R1.sF, R1.dj, R1.nS, R1.nF, R1.tb, by rw [R1.len, wipe_length], fun k c hc => ?_, fun j k b cj ck hj hk mj mk ej ek => ?_⟩
      · by_cases hk : k ∈ vs
        · rw [hun k hk c hc]; trivial
        · rw [← hw σ k hk]; exact R1.sl k c hc
      · have nin : ∀ {k : Nat} {c : Cell}, ρ2[k]? = some c → c.mut = true → k ∉ vs := fun h m z => by
          rw [hun _ z _ h] at m; cases m
        exact R1.ds j k b cj ck hj hk mj mk (by rw [hw σ j (nin hj mj)]; exact ej) (by rw [hw σ k (nin hk mk)]; exact ek)
    refine .inl ⟨ok.1 H1 (s1.trans R1.sS), q S1 H1 _ (s0.trans s1) R2 ⟨A, rfl, ⟨nS, nF, node_K hA1 hacc⟩, fun k c hc m z => ?_⟩⟩
    have nin : k ∉ vs := fun y => by rw [hun _ y _ hc] at m; cases m
    exact ap k c hc m (by rw [hw σ k nin]; exact z)
theorem ee_dc (hc : X.calm = true) (hN : X.N.Nodup) (hi : PI X tg iter (SI X.K T src)) (ok : BlkOk X.N X.env.scope scope own)
    (hg : ∀ (s : Shared) (H : Hp) (C : Addr) (cl : List (Str × Addr)) (fp : List Addr), PG (X.blk s H scope (compEnvC scope cl C X.env) fp) tg (SG X.K T g is)) (ht : ∀ (s : Shared) (H : Hp) (C : Addr) (cl : List (Str × Addr)) (fp : List Addr), PTs (X.blk s H scope (compEnvC scope cl C X.env) fp) ifs (ST X.K T ft))
    (hk : ∀ (s : Shared) (H : Hp) (C : Addr) (cl : List (Str × Addr)) (fp : List Addr), PE (X.blk s H scope (compEnvC scope cl C X.env) fp) kx (SE X.K T fk))
    (he : ∀ (s : Shared) (H : Hp) (C : Addr) (cl : List (Str × Addr)) (fp : List Addr), PE (X.blk s H scope (compEnvC scope cl C X.env) fp) vx (SE X.K T fv)) (hvs : ∀ i ∈ is, i ∈ own.map (·.2) := by decide) (hs : ∀ x, foldedSetIterable iter X.env x = pure x := by intro _; rfl) :
    PE X (.DictComp kx vx [⟨tg, iter, ifs, 0⟩] scope pos) (SE X.K T (eDc g (own.map (·.2)) src ft fk fv)) := (pe_dc hc hN hi ok hg ht hk he hs).imp fun _ _ _ q => dc_run hvs q
theorem ps_setDc {i : Nat} {y : Str} {py spos : Pos} {wi : TI} {gg : TG} {tt : TT} {tk tv : TE} (hc : X.calm = true) (hN : X.N.Nodup) (hy : X.N[i]? = some y) (hyl : X.env.scope.names.lookup y = some .local)
    (sw : swapsWith (.DictComp kx vx [⟨tg, iter, ifs, 0⟩] scope pos) (some (.Name y py)) spos.line X.env = pure true) (hi : PI X tg iter wi) (ok : BlkOk X.N X.env.scope scope own)
    (hg : ∀ (s : Shared) (H : Hp) (C : Addr) (cl : List (Str × Addr)) (fp : List Addr), PG (X.blk s H scope (compEnvC scope cl C X.env) fp) tg gg) (ht : ∀ (s : Shared) (H : Hp) (C : Addr) (cl : List (Str × Addr)) (fp : List Addr), PTs (X.blk s H scope (compEnvC scope cl C X.env) fp) ifs tt)
    (hk : ∀ (s : Shared) (H : Hp) (C : Addr) (cl : List (Str × Addr)) (fp : List Addr), PE (X.blk s H scope (compEnvC scope cl C X.env) fp) kx tk)
    (he : ∀ (s : Shared) (H : Hp) (C : Addr) (cl : List (Str × Addr)) (fp : List Addr), PE (X.blk s H scope (compEnvC scope cl C X.env) fp) vx tv) (hs : ∀ x, foldedSetIterable iter X.env x = pure x) :
    PS X (.Assign [.Name y py] (.DictComp kx vx [⟨tg, iter, ifs, 0⟩] scope pos) spos) (tAsg (tDc wi gg tt tk tv (own.map (·.2))) (gName i)) := ⟨fun pins s σ H D I h => by
  rw [exec_Assign_Name_used _ _ _ _ sw]; refine wpAny_bind (wpAny_standAt (wpAny_bind ?_))
  change wpAny _ X.A (Bind.bind (comprehension (.DictComp kx vx [⟨tg, iter, ifs, 0⟩] scope pos) scope X.env (firstIterPos [⟨tg, iter, ifs, 0⟩] pos) newDict false (eval iter X.env) (some (assign (.Name y py) X.env))) _) _ _ s
  have hq : tDc wi gg tt tk tv (own.map (·.2)) σ H (fun x H1 => gName i x σ H1 D.nx) := h
  refine wpAny_bind (thn (dc_core (Qf := fun _ s' => SP X pins D .next s') hc hN I hi ok hg ht hk he hs hq fun L C s1 m H1 I1 q n f => ?_) fun _ _ z => wpAny_pure (wpAny_pure z))
  change wpAny _ _ (assign (.Name y py) X.env (.ref L)) _ _ _; refine wpAny_assign_Name (store_ok2 (v := V.ref L) I1 hN hy (.inl hyl) rfl (fun s2 I2 ⟨a, sb, ha⟩ => ?_) (.inr hyl))
  have ne : C ≠ a := ha.elim (fun z => z ▸ f.2.1) fun z e => f.2.2.2.2.1 y a z e.symm
  exact ⟨m, n.sameBut sb ne, fun h3 sb3 => ⟨_, H1, I2.turned (t' := s2.toks) (fun b o hb e => (sb3.2 b hb).trans e) f.1 f.2.1 f.2.2.2.1 f.2.2.2.2.1 f.2.2.2.2.2, q⟩⟩⟩
theorem ss_setDc {i : Nat} {y : Str} {py spos : Pos} (hc : X.calm = true) (hN : X.N.Nodup) (hy : X.N[i]? = some y) (hyl : X.env.scope.names.lookup y = some .local)
    (hsw : swapsWith (.DictComp kx vx [⟨tg, iter, ifs, 0⟩] scope pos) (some (.Name y py)) spos.line X.env = pure true) (hi : PI X tg iter (SI X.K T src)) (ok : BlkOk X.N X.env.scope scope own)
    (hg : ∀ (s : Shared) (H : Hp) (C : Addr) (cl : List (Str × Addr)) (fp : List Addr), PG (X.blk s H scope (compEnvC scope cl C X.env) fp) tg (SG X.K T g is)) (ht : ∀ (s : Shared) (H : Hp) (C : Addr) (cl : List (Str × Addr)) (fp : List Addr), PTs (X.blk s H scope (compEnvC scope cl C X.env) fp) ifs (ST X.K T ft))
    (hk : ∀ (s : Shared) (H : Hp) (C : Addr) (cl : List (Str × Addr)) (fp : List Addr), PE (X.blk s H scope (compEnvC scope cl C X.env) fp) kx (SE X.K T fk))
    (he : ∀ (s : Shared) (H : Hp) (C : Addr) (cl : List (Str × Addr)) (fp : List Addr), PE (X.blk s H scope (compEnvC scope cl C X.env) fp) vx (SE X.K T fv)) (hvs : ∀ i ∈ is, i ∈ own.map (·.2) := by decide) (hs : ∀ x, foldedSetIterable iter X.env x = pure x := by intro _; rfl) :
    PS X (.Assign [.Name y py] (.DictComp kx vx [⟨tg, iter, ifs, 0⟩] scope pos) spos) (SS X.K T (sSet i (eDc g (own.map (·.2)) src ft fk fv))) := by
  have h := ps_setDc hc hN hy hyl hsw hi ok hg ht hk he hs
  exact ss_asg_name (h.imp fun D σ H q => dc_run hvs q)
end
end Dt
end

section
set_option Elab.async false
set_option linter.all false
set_option maxRecDepth 100000
set_option maxHeartbeats 4000000
set_option autoImplicit false
namespace Dt
open PySem PySem.Spec PyProof.Rows L2
/-! ### a class's method, by reading it off the top -/
def methB (K : PySem.W.Frag) (C : Addr) (m : Str) : Bool := He.eqO (PySem.W.findIn K (.ref C) m) (some (some (.ref (He.ma K C m)))) && (PySem.W.isFn K (.ref (He.ma K C m)) && PySem.W.keepIn K (.ref (He.ma K C m)))
theorem methB_ok {K : PySem.W.Frag} {C : Addr} {m : Str} (h : methB K C m = true) : Meth K C m (He.ma K C m) := by
  obtain ⟨h1, h⟩ := He.ba h
  obtain ⟨h2, h3⟩ := He.ba h
  exact ⟨He.eqO_ok h1, h2, h3⟩
end Dt
end

section
set_option Elab.async false
set_option linter.all false
set_option maxRecDepth 100000
set_option maxHeartbeats 4000000
set_option autoImplicit false
namespace Dt
open PySem PySem.Spec PyProof.Rows L2

/-! ### methods that look at own objects and give flat data -/
section
variable {K : PySem.W.Frag} {T : Tab} {π σ : L2.St} {F S S' H H' : Hp} {ρ ρ' : Env} {a : Addr} {v : V} {d : D} {r : RV}
theorem SpF.view {ff : Fm} {vs : List V} {ds : List D} {cs' : List Cell} {Q : VK} {E : XK} (R : Rel K T π F S ρ σ H) (hd : DRs K T (Dt.seen S H ρ σ) vs ds) (e3 : ff (ds.map .fro) = .ok (r, cs')) (fl : r.lv = true)
    (q : ∀ S' H' v, Same S S' → Rel K T π F S' ρ σ H' → RVR K T F S' H' ρ σ v r → Q v H') : SpF K T ff vs H Q E := by
  refine ⟨_, _, _, _, _, rel_fros R.look hd, e3, by
    cases r with
    | bor i => cases fl
    | fro d => rfl
    | own d => rfl, fun S' H' v s' R' rv => ?_⟩
  obtain ⟨s2, R2, sq⟩ := R.unlook s' R'
  refine q _ H' v s2 R2 ?_
  cases r with
  | bor i => cases fl
  | fro d => exact DR.lvTo sq rv fl
  | own d =>
    obtain ⟨a, rfl, o, ap⟩ := rv
    cases d <;> first | (cases fl; done) | skip
    rename_i xs
    obtain ⟨ws, n1, n2⟩ := o.2.2
    have nIn : ¬ InSlot ρ σ a := fun z => by
      obtain ⟨_, _, d, n⟩ := R.inSlot z
      obtain ⟨u, hu⟩ := n.there
      have := s' _ _ ((seen_in z).trans hu)
      rw [o.1] at this; cases this
    refine ⟨a, rfl, ⟨(unseen_out nIn).trans o.1, ?_, ws, n1, n2.lvTo sq fl⟩, fun i c hc m z => nIn ⟨i, c, hc, m, z⟩⟩
    cases hF : F a with
    | none => rfl
    | some y =>
      have := (others_of (P := fun _ => false) (R.look.dj _ _ hF) rfl fun ps z => R.nF a ps (hF.trans ((R.sF _ _ hF).symm.trans z))).trans (R.sF _ _ hF)
      rw [o.2.1] at this; cases this
theorem RD.obj_at {c : Nat} {ds : List D} (sS : Same S H) (h : RD K T S H v (.obj c ds)) : ∃ a dx fs, v = .ref a ∧ H a = some (.ins (T.ca c) dx fs) ∧ fs.map (·.1) = (T.fl c).take ds.length := by
  rcases h with h | ⟨a, rfl, h⟩
  · cases h with
    | obj h1 h2 h3 => exact ⟨_, _, _, rfl, sS _ _ h1, h2⟩
  · obtain ⟨dx, fs, h1, h2, _⟩ := h
    exact ⟨a, dx, fs, rfl, h1, h2⟩
end
def D.isOf (c : Nat) : D → Bool
  | .obj n _ => n == c
  | _ => false
theorem isOf_eq {c : Nat} {d : D} (h : d.isOf c = true) : ∃ ds, d = .obj c ds := by
  cases d <;> first | (cases h; done) | skip
  rename_i n ds
  have e : n = c := beq_iff_eq.mp h
  exact ⟨ds, by rw [e]⟩
def eMethV (c : Nat) (ff : Fm) (fe : EF) (fa : AF) : EF := fun ρ => (fe ρ).bind fun p => (Res.of (deref p.2 p.1.hold)).bind fun d0 => (Res.need (d0.isOf c)).bind fun _ => (fa p.2).bind fun q => (Res.of (derefs q.2 (p.1.hold :: q.1))).bind fun ds => (ff (ds.map .fro)).bind fun z => (Res.need z.1.lv).bind fun _ => .ok (z.1, q.2)
section
variable {X : Cx} {T : Tab} {c : Nat} {E : XK} {m : Str} {fe : EF} {fa : AF} {ff : Fm}
theorem no_attr {K : PySem.W.Frag} {fs : List (Str × V)} {n : Nat} (hm : (T.fl c).contains m = false) (h2 : fs.map (·.1) = (T.fl c).take n) : fs.lookup m = none := by
  refine List.lookup_eq_none_iff.mpr fun p hp => ?_
  have hmem : p.1 ∈ T.fl c := List.mem_of_mem_take (h2 ▸ List.mem_map.mpr ⟨p, hp, rfl⟩)
  have : ¬ (m = p.1) := fun e => by
    rw [← e] at hmem
    have := List.contains_iff_mem.mpr hmem
    rw [hm] at this
    cases this
  simpa using this
theorem methV_run {σ : L2.St} {H : Hp} {Q : VK} (hm : (T.fl c).contains m = false) (q : SE X.K T (eMethV c ff fe fa) σ H Q) : tMeth (T.ca c) m (SpF X.K T ff) [] E (SE X.K T fe) (SA X.K T fa) σ H Q := by
  obtain ⟨π, F, S, ρ, r, ρ', R, e, q⟩ := q
  obtain ⟨⟨x, ρ1⟩, e1, e⟩ := Res.bind_eq e
  obtain ⟨d0, e2, e⟩ := Res.bind_eq e
  obtain ⟨_, e3, e⟩ := Res.bind_eq e
  obtain ⟨⟨rs, ρ2⟩, e4, e⟩ := Res.bind_eq e
  obtain ⟨ds, e5, e⟩ := Res.bind_eq e
  obtain ⟨⟨r', cs'⟩, e6, e⟩ := Res.bind_eq e
  obtain ⟨_, e7, e⟩ := Res.bind_eq e
  cases e
  refine ⟨π, F, S, ρ, x, ρ1, R, e1, fun S1 H1 v s1 R1 rv => ?_⟩
  obtain ⟨S2, s2, R2, hv⟩ := rv.hold R1
  have rd := hv.rd R2 (Res.of_eq e2)
  have e3 := Res.need_eq e3
  obtain ⟨ds0, rfl⟩ := isOf_eq e3
  obtain ⟨a, dx, fs, rfl, h1, h2⟩ := rd.obj_at R2.sS
  refine ⟨a, dx, fs, rfl, h1, no_attr (K := X.K) hm h2, π, F, S2, ρ1, rs, _, R2, e4, fun S3 H3 vs s3 R3 hvs => ?_⟩
  show SpF X.K T ff (_ :: (vs ++ [])) H3 Q E
  rw [List.append_nil]
  have hall : HeldAll X.K T S3 σ (V.ref a :: vs) (x.hold :: rs) := .cons (hv.mono s3) hvs
  exact SpF.view (E := E) R3 (hall.seen R3 (Res.of_eq e5)) e6 (Res.need_eq e7) fun S' H' v s R' rv => q S' H' v (s1.trans (s2.trans (s3.trans s))) R' rv
theorem methV0_run {σ : L2.St} {H : Hp} {Q : VK} (hm : (T.fl c).contains m = false) (q : SE X.K T (eMethV c ff fe aNo) σ H Q) : tMeth (T.ca c) m (SpF X.K T ff) [] E (SE X.K T fe) tNil σ H Q := by
  obtain ⟨π, F, S, ρ, r, ρ', R, e, q⟩ := q
  obtain ⟨⟨x, ρ1⟩, e1, e⟩ := Res.bind_eq e
  obtain ⟨d0, e2, e⟩ := Res.bind_eq e
  obtain ⟨_, e3, e⟩ := Res.bind_eq e
  obtain ⟨⟨rs, ρ2⟩, e4, e⟩ := Res.bind_eq e
  obtain ⟨ds, e5, e⟩ := Res.bind_eq e
  obtain ⟨⟨r', cs'⟩, e6, e⟩ := Res.bind_eq e
  obtain ⟨_, e7, e⟩ := Res.bind_eq e
  cases e
  cases e4
  refine ⟨π, F, S, ρ, x, ρ1, R, e1, fun S1 H1 v s1 R1 rv => ?_⟩
  obtain ⟨S2, s2, R2, hv⟩ := rv.hold R1
  have rd := hv.rd R2 (Res.of_eq e2)
  have e3 := Res.need_eq e3
  obtain ⟨ds0, rfl⟩ := isOf_eq e3
  obtain ⟨a, dx, fs, rfl, h1, h2⟩ := rd.obj_at R2.sS
  refine ⟨a, dx, fs, rfl, h1, no_attr (K := X.K) hm h2, ?_⟩
  have hall : HeldAll X.K T S2 σ [V.ref a] [x.hold] := .cons hv .nil
  exact SpF.view (E := E) R2 (hall.seen R2 (Res.of_eq e5)) e6 (Res.need_eq e7) fun S' H' v s R' rv => q S' H' v (s1.trans (s2.trans s)) R' rv
def eMethVD (tbl : List (Nat × Fm)) (fe : EF) (fa : AF) : EF := fun ρ => (fe ρ).bind fun p => (Res.of (deref p.2 p.1.hold)).bind fun d => (Res.of (tbl.find? fun q => d.isOf q.1)).bind fun q => eMethV q.1 q.2 fe fa ρ
theorem methVD_run {tbl : List (Nat × Fm)} {σ : L2.St} {H : Hp} {Q : VK} (q : SE X.K T (eMethVD tbl fe fa) σ H Q) : ∃ p ∈ tbl, SE X.K T (eMethV p.1 p.2 fe fa) σ H Q := by
  obtain ⟨π, F, S, ρ, r, ρ', R, e, q⟩ := q
  obtain ⟨⟨x, ρ1⟩, e1, e⟩ := Res.bind_eq e
  obtain ⟨d, e2, e⟩ := Res.bind_eq e
  obtain ⟨p, e3, e⟩ := Res.bind_eq e
  exact ⟨p, List.mem_of_find?_eq_some (Res.of_eq e3), π, F, S, ρ, r, ρ', R, e, q⟩
variable {e : Expr}
theorem ee_methVD1 {c1 : Nat} {f1 : Fm} (h1 : PE X e (SE X.K T (eMethV c1 f1 fe fa))) : PE X e (SE X.K T (eMethVD [(c1, f1)] fe fa)) := ⟨fun pins s σ H Q I h => by
  obtain ⟨p, hp, q⟩ := methVD_run h
  rcases List.mem_cons.mp hp with rfl | hp
  · exact h1.run pins s σ H Q I q
  · cases hp⟩
theorem ee_methVD2 {c1 c2 : Nat} {f1 f2 : Fm} (h1 : PE X e (SE X.K T (eMethV c1 f1 fe fa))) (h2 : PE X e (SE X.K T (eMethV c2 f2 fe fa))) : PE X e (SE X.K T (eMethVD [(c1, f1), (c2, f2)] fe fa)) := ⟨fun pins s σ H Q I h => by
  obtain ⟨p, hp, q⟩ := methVD_run h
  rcases List.mem_cons.mp hp with rfl | hp
  · exact h1.run pins s σ H Q I q
  · rcases List.mem_cons.mp hp with rfl | hp
    · exact h2.run pins s σ H Q I q
    · cases hp⟩
end
end Dt
end

section
set_option Elab.async false
set_option linter.all false
set_option maxRecDepth 100000
set_option maxHeartbeats 4000000
set_option autoImplicit false
namespace Dt
open PySem PySem.Spec PyProof.Rows L2

/-! ### d.get(k) -/
def tG1 (K : PySem.W.Frag) (T : Tab) (td ty : TE) : TE := fun σ H Q => td σ H fun x H1 => ∃ a, x = .ref a ∧ isDx K T H1 a ∧ ty σ H1 fun y H2 => rGet2 K T x y .non H2 Q
section
variable {X : Cx} {T : Tab} {o e : Expr} {apos cpos : Pos} {td ty : TE} {fo fk : EF}
theorem g_get1 {pins : List (Addr × Obj)} {σ : L2.St} {H : Hp} {s : Shared} {x y : V} {v u : Value} {Q : VK} {A : Around} {E : Value → Shared → Prop} (hu : A.units + 64 < cLine) (I : L2.Inv X pins σ H s) (rx : RelV x v) (ry : RelV y u) (h : rGet2 X.K T x y .non H Q) :
    wpAny (model X.prog X.w) A (call (.builtin "dict.get") [v, u]) (EP X pins σ Q) E s := by
  rcases h with ⟨a, o, rfl, g, q⟩ | ⟨a, t, kvs, ks, k, rfl, n, ⟨d, rfl, g1, g2, g3⟩, q⟩
  · obtain rfl : v = Value.ref a := rx
    exact d_get1 (by omega) I g ry fun w' s' I' rw' => ⟨_, H, I', rw', q⟩
  · obtain rfl : v = Value.ref a := rx
    obtain rfl : u = Value.ref t := ry
    obtain ⟨xs, hp, dd⟩ := dicN_at I n.at_ n.dr n.dk n.d8 n.nd
    exact call_meetsIn PySem.F.slot_dict_get dd.typeIs PySem.F.entry_dict_get (PySem.F.args_dict_get_2 _ _) (meetsH_dict_get (nestedKind X.prog X.w) a t n.sy) ⟨(by show A.units + 1 + 8 < cLine; omega), k, xs, ⟨DR.nested I g1 g2 rfl, g3⟩, dd, _, H, I.tok _, (hp.find k).getD (show L2.RelV V.non Value.none from rfl), q⟩
theorem pe_g1 (hu : X.A.units + 64 < cLine) (ho : PE X o td) (he : PE X e ty) (m : M1 X o "get" apos e cpos) : PE X (.Call (.Attribute o "get" apos) [e] [] cpos) (tG1 X.K T td ty) := ⟨fun pins s σ H Q I h => by
  refine wpAny_Call_method m.base m.few m.line PySem.F.plainAttrs_dict PySem.F.slot_dict_get PySem.F.type_dict_get (thn (ho.run pins s σ H _ I h) fun u s1 ⟨x, H1, I1, rx, a, ex, d, q1⟩ => ?_)
  subst ex; obtain rfl : u = Value.ref a := rx
  obtain ⟨t1, t2⟩ := isDx_at I1 d
  refine ⟨t1, t2, ?_⟩; rw [m.trees]
  exact Calls.callWith_builtin rfl (Calls.evalArgs_plain (Calls.spliced_cons (thn (he.run pins s1 σ H1 _ I1 q1) fun iv s2 ⟨y, H2, I2, ry, q2⟩ => Calls.spliced_nil (g_get1 hu I2 (show L2.RelV (V.ref a) (Value.ref a) from rfl) ry q2))))⟩
theorem SE.nonV {K : PySem.W.Frag} {σ : L2.St} {H : Hp} {Q : VK} (h : SE K T (eC .non) σ H Q) : Q .non H := by
  obtain ⟨π, F, S, ρ, r, ρ', R, e, q⟩ := h
  cases e
  exact q S H .non (Same.refl S) R .non
theorem ee_get1 (hu : X.A.units + 64 < cLine) (ho : PE X o (SE X.K T fo)) (he : PE X e (SE X.K T fk)) (m : M1 X o "get" apos e cpos) : PE X (.Call (.Attribute o "get" apos) [e] [] cpos) (SE X.K T (eGet2 fo fk (eC .non))) := (pe_g1 hu ho he m).imp fun σ H Q q => by
  have z := get2_run q
  obtain ⟨π, F, S, ρ, r, ρ', R, e, h⟩ := z
  refine ⟨π, F, S, ρ, r, ρ', R, e, fun S' H' v s R' rv => ?_⟩
  obtain ⟨a, h1, h2, π2, F2, S2, ρ2, r2, ρ2', R2, e2, h3⟩ := h S' H' v s R' rv
  exact ⟨a, h1, h2, π2, F2, S2, ρ2, r2, ρ2', R2, e2, fun S3 H3 w s3 R3 rw3 => (h3 S3 H3 w s3 R3 rw3).nonV⟩
end
end Dt
end

section
set_option Elab.async false
set_option linter.all false
set_option maxRecDepth 100000
set_option maxHeartbeats 4000000
set_option autoImplicit false
namespace Dt
open PySem PySem.Spec PyProof.Rows L2

/-! ### gcd -/
def oGcd : D → D → Res RV := gInt fun i j => .ok (.fro (.int ((Nat.gcd i.natAbs j.natAbs : Nat) : Int)))
section
variable {X : Cx} {T : Tab} {a b : Expr} {f : AF} {x : Str} {p pos : Pos}
theorem op_gcd {K : PySem.W.Frag} : Op2 K T (fun x y H Q => rGcd [x, y] H Q) oGcd := by
  intro π F S ρ σ H x y d e res Q R hx hy hg q
  cases d <;> first | (cases hg; done) | skip
  cases e <;> first | (cases hg; done) | skip
  cases hg
  cases hx.int
  cases hy.int
  exact ⟨_, _, rfl, q S H _ (Same.refl S) R (.int _)⟩
theorem ee_gcd (hg : Gl X x) (hm : X.mg x = some (.builtin "math.gcd")) (ha : PA X (a :: [b]) (SA X.K T f)) (hdb : (x == ("__debug__" : Str)) = false := by decide) (he : starEach (a :: [b]) X.env = (false, eval a X.env) :: starEach [b] X.env := by rfl) (hpl : (backTo pos (starEach [b] X.env)).any (·.1) = false := by rfl) :
    PE X (.Call (.Name x p) [a, b] [] pos) (SE X.K T (eCB (c2 oGcd) f)) := (pe_callBfun cr_gcd hg hm ha hdb he hpl).imp fun _ _ _ q => SA.cb (opC2 op_gcd) q
end
/-- a module's name for a built-in function -/
def bltB (K : PySem.W.Frag) (x : Str) (id : String) : Bool := He.eqO (PySem.W.nsIn K mainGlobals x) (some (some (.builtin id)))
theorem bltB_ok {K : PySem.W.Frag} {h : Heap} {mg : Str → Option Value} (X : K.In h) (G : h.Ns mainGlobals mg) {x : Str} {id : String} (c : bltB K x id = true) : mg x = some (.builtin id) := PySem.W.mg_of X G (He.eqO_ok c)
end Dt
end

section
set_option Elab.async false
set_option linter.all false
set_option maxRecDepth 100000
set_option maxHeartbeats 4000000
set_option autoImplicit false
namespace Dt
open PySem PySem.Spec PyProof.Rows L2

/-! ### min of a list of ints, with None if it is empty -/
theorem args_minDef (x d : Value) : argsOk "min" ⟨[x], [(Str.ofString "default", d)]⟩ := by unfold argsOk; kernel_rfl
section
variable {P : Program} {w : World} {A : Around} {R : Result → Shared → Prop} {I l : Addr} {xs : Array (Int × Tok)} {d : Value}
/-- the place of the least so far -/
abbrev lowAt (xs : Array (Int × Tok)) : Nat → Nat := argBest fun i j => decide (numAt xs i < numAt xs j)
theorem low_succ (xs : Array (Int × Tok)) (j : Nat) : lowAt xs (j + 1) = if decide (numAt xs (j + 1) < numAt xs (lowAt xs j)) = true then j + 1 else lowAt xs j := rfl
theorem minDef_turns (hh : A.handled = none) (hlI : l ≠ I) {S : Addr} (hSI : S ≠ I) (hSl : S ≠ l) :
    ∀ (m j : Nat) (s : Shared) (vb : Value) (c : Nat), xs.size - (j + 1) = m → j + 1 ≤ xs.size → s.heap.IsListIter I l (j + 1) → s.heap.IsList l (intItems xs) → (intItems xs)[lowAt xs j]? = some vb →
    s.heap.get? S = some { cls := .type "list", dict := none, data := .seq #[vb, vb] c, slots := #[] } →
    (∀ v h' tk, (intItems xs)[lowAt xs (xs.size - 1)]? = some v → (∀ b o, b ≠ I → b ≠ S → s.heap.get? b = some o → h'.get? b = some o) → R (.ok (.ret v)) { s with heap := h', toks := tk }) →
    codeAny (model P w) A (.builtin "min.loop" ⟨[.ref I, .none, .ref S], [("default", d)]⟩) R s := by
  have hname : (toString "min" ++ toString ".loop" : String) = "min.loop" := by decide
  have hsz : (intItems xs).size = xs.size := by simp [intItems]
  intro m
  induction m with
  | zero =>
    intro j s vb c hk hj hit hl hv hS hR
    have hin : j + 1 = xs.size := by omega
    refine codeAny_builtin PySem.F.entry_min_loop ?_
    rw [Around.under_plainId PySem.F.plain_min_loop _]
    refine (show wpAny _ A.in1 (seqItems? (.ref S) >>= _) _ _ s from wpAny_bind (wpAny_seqItems hS rfl ?_))
    refine (show wpAny _ A.in1 (tryCatch (pyNext (.ref I)) _ >>= _) _ _ s from wpAny_bind (wpAny_tryCatch (wpAny_pyNext_list_end (A := A.in1) hh hit hl (Array.getElem?_eq_none (Nat.le_of_eq (hsz.trans hin.symm))) fun h' he => ?_)))
    have hS' := he S _ hSI hS
    refine (show wpAny _ A.in1 (updateSeq S (fun _ => #[]) >>= _) _ _ _ from wpAny_bind (wpAny_updateSeq hS' rfl (wpAny_bind (wpAny_letGo (wpAny_pure ?_)))))
    refine hR vb _ s.toks (by rw [← hin]; exact hv) fun b o h1 h2 e => (Heap.get?_update_other _ _ (Ne.symm h2)).trans (he b o h1 e)
  | succ m ih =>
    intro j s vb c hk hj hit hl hv hS hR
    have hlt : j + 1 < (intItems xs).size := by omega
    refine codeAny_builtin PySem.F.entry_min_loop ?_
    rw [Around.under_plainId PySem.F.plain_min_loop _]
    refine (show wpAny _ A.in1 (seqItems? (.ref S) >>= _) _ _ s from wpAny_bind (wpAny_seqItems hS rfl ?_))
    refine (show wpAny _ A.in1 (tryCatch (pyNext (.ref I)) _ >>= _) _ _ s from wpAny_bind (wpAny_tryCatch (wpAny_pyNext_list_item (x := (intItems xs)[j + 1]) hit hl (Array.getElem?_eq_getElem hlt) fun h1 hit1 hs1 => ?_)))
    have k1 : ∀ b o, b ≠ I → s.heap.get? b = some o → h1.get? b = some o := fun b o hb e => hs1.extBut b o hb e
    have hS' := k1 S _ hSI hS
    have hl1 : h1.IsList l (intItems xs) := hl.at fun o e => k1 l o hlI e
    have hj1 : (intItems xs)[j + 1]? = some (intItems xs)[j + 1] := Array.getElem?_eq_getElem hlt
    generalize (intItems xs)[j + 1] = vj at hj1
    refine (show wpAny _ A.in1 (tryCatch (holding [vj, vj] (richCompare .Lt vj vb >>= _)) _ >>= _) _ _ _ from wpAny_bind (wpAny_tryCatch (wpAny_holding (wpAny_bind (CmpOf.ints_lt (numAt xs) (fun i v h => intItems_at h) (j + 1) (lowAt xs j) vj vb _ _ _ hj1 hv ?_)))))
    refine wpAny_bind (wpAny_holding (wpAny_truthy_bool (wpAny_bind (wpAny_letGo (wpAny_pure ?_)))))
    cases hb : decide (numAt xs (j + 1) < numAt xs (lowAt xs j)) with
    | true =>
      have hla : lowAt xs (j + 1) = j + 1 := (low_succ xs j).trans (by rw [hb]; exact if_pos rfl)
      rw [if_pos hb]
      refine wpAny_bind (wpAny_updateSeq hS' rfl (wpAny_bind (wpAny_letGo ?_)))
      rw [hname]
      refine wpAny_pure ⟨plainId_quiet PySem.F.plain_min_loop _, ih (j + 1) _ vj _ (by omega) (by omega) (hit1.at fun o e => (Heap.get?_update_other _ _ hSI).trans e) (hl1.at fun o e => (Heap.get?_update_other _ _ hSl).trans e)
        (by rw [hla]; exact hj1) (Heap.get?_update_self _ hS' rfl) fun v h' tk hv' kp => ?_⟩
      exact hR v h' tk hv' fun b o z1 z2 e => kp b o z1 z2 ((Heap.get?_update_other _ _ (Ne.symm z2)).trans (k1 b o z1 e))
    | false =>
      have hla : lowAt xs (j + 1) = lowAt xs j := (low_succ xs j).trans (by rw [hb]; exact if_neg (by decide))
      rw [if_neg (fun z => Bool.noConfusion (hb.symm.trans z))]
      refine wpAny_bind (wpAny_letGo ?_)
      rw [hname]
      refine wpAny_pure ⟨plainId_quiet PySem.F.plain_min_loop _, ih (j + 1) _ vb c (by omega) (by omega) hit1 hl1 (by rw [hla]; exact hv) hS' fun v h' tk hv' kp => ?_⟩
      exact hR v h' tk hv' fun b o z1 z2 e => kp b o z1 z2 (k1 b o z1 e)
theorem minDef_first (hh : A.handled = none) (hlI : l ≠ I) {S : Addr} (hSI : S ≠ I) (hSl : S ≠ l) {s : Shared} {c : Nat} (hit : s.heap.IsListIter I l 0) (hl : s.heap.IsList l (intItems xs))
    (hS : s.heap.get? S = some { cls := .type "list", dict := none, data := .seq #[] c, slots := #[] })
    (hR : ∀ v h' tk, (if 0 < xs.size then (intItems xs)[lowAt xs (xs.size - 1)]? = some v else v = d) → (∀ b o, b ≠ I → b ≠ S → s.heap.get? b = some o → h'.get? b = some o) → R (.ok (.ret v)) { s with heap := h', toks := tk }) :
    codeAny (model P w) A (.builtin "min.loop" ⟨[.ref I, .none, .ref S], [("default", d)]⟩) R s := by
  have hname : (toString "min" ++ toString ".loop" : String) = "min.loop" := by decide
  have hsz : (intItems xs).size = xs.size := by simp [intItems]
  refine codeAny_builtin PySem.F.entry_min_loop ?_
  rw [Around.under_plainId PySem.F.plain_min_loop _]
  refine (show wpAny _ A.in1 (seqItems? (.ref S) >>= _) _ _ s from wpAny_bind (wpAny_seqItems hS rfl ?_))
  by_cases hn : 0 < xs.size
  · have hn' : 0 < (intItems xs).size := by omega
    replace hR := fun v h' tk (hv : (intItems xs)[lowAt xs (xs.size - 1)]? = some v) => hR v h' tk (by rw [if_pos hn]; exact hv)
    refine (show wpAny _ A.in1 (tryCatch (pyNext (.ref I)) _ >>= _) _ _ s from wpAny_bind (wpAny_tryCatch (wpAny_pyNext_list_item (x := (intItems xs)[0]) hit hl (Array.getElem?_eq_getElem hn') fun h1 hit1 hs1 => ?_)))
    have k1 : ∀ b o, b ≠ I → s.heap.get? b = some o → h1.get? b = some o := fun b o hb e => hs1.extBut b o hb e
    have hS' := k1 S _ hSI hS
    have hl1 : h1.IsList l (intItems xs) := hl.at fun o e => k1 l o hlI e
    refine (show wpAny _ A.in1 (updateSeq S (fun _ => #[(intItems xs)[0], (intItems xs)[0]]) >>= _) _ _ _ from wpAny_bind (wpAny_updateSeq hS' rfl ?_))
    rw [hname]
    refine wpAny_pure ⟨plainId_quiet PySem.F.plain_min_loop _, minDef_turns hh hlI hSI hSl _ 0 _ (intItems xs)[0] _ rfl hn (hit1.at fun o e => (Heap.get?_update_other _ _ hSI).trans e) (hl1.at fun o e => (Heap.get?_update_other _ _ hSl).trans e)
      (Array.getElem?_eq_getElem hn') (Heap.get?_update_self _ hS' rfl) fun v h' tk hv' kp => ?_⟩
    exact hR v h' tk hv' fun b o z1 z2 e => kp b o z1 z2 ((Heap.get?_update_other _ _ (Ne.symm z2)).trans (k1 b o z1 e))
  · replace hR := fun v h' tk (hv : v = d) => hR v h' tk (by rw [if_neg hn]; exact hv)
    refine (show wpAny _ A.in1 (tryCatch (pyNext (.ref I)) _ >>= _) _ _ s from wpAny_bind (wpAny_tryCatch (wpAny_pyNext_list_end (A := A.in1) hh hit hl (Array.getElem?_eq_none (by omega)) fun h' he => ?_)))
    refine (show wpAny _ A.in1 (rule _ >>= _) _ _ _ from wpAny_bind (wpAny_rule (wpAny_pure ?_)))
    exact hR d _ s.toks rfl fun b o h1 _ e => he b o h1 e
theorem call_minDef {E : Value → Shared → Prop} {s : Shared} {Q : Value → Shared → Prop} (hh : A.handled = none) (hl : s.heap.IsList l (intItems xs))
    (h : ∀ v h' tk, (if 0 < xs.size then (intItems xs)[lowAt xs (xs.size - 1)]? = some v else v = d) → (∀ b o, s.heap.get? b = some o → h'.get? b = some o) → Q v { s with heap := h', toks := tk }) : wpAny (model P w) A (call (.builtin "min") [.ref l] [(Str.ofString "default", d)]) Q E s := by
  have hname : (toString "min" ++ toString ".loop" : String) = "min.loop" := by decide
  have hlt : l < s.heap.objs.size := by
    obtain ⟨_, e, _⟩ := hl
    exact Heap.lt_size e
  refine wpAny_call (codeAny_call_builtin PySem.F.plain_min PySem.F.entry_min ?_)
  simp only [checkBuiltinCall, PySem.F.kind_min]
  have fin : wpAny (model P w) A.in1 (Builtin.«min» ⟨[.ref l], [(Str.ofString "default", d)]⟩) (fun f s' => match f with
      | .done f => (match (Except.ok f : Result) with | .ok (.ret v) => Q v s' | .ok _ => False | .error e => E e s')
      | .again c' => c'.quiet = true ∧ codeAny (model P w) A c' (fun r s' => match r with | .ok (.ret v) => Q v s' | .ok _ => False | .error e => E e s') s') E s := by
    refine (show wpAny _ A.in1 (Builtin.Builtins.bindParams "min" ["key", "default"] 0 ⟨[], [(Str.ofString "default", d)]⟩ >>= _) _ _ s from wpAny_bind (wpAny_of_eq (show Builtin.Builtins.bindParams "min" ["key", "default"] 0 ⟨[], [(Str.ofString "default", d)]⟩ = pure [none, some d] from rfl) (wpAny_bind (wpAny_pure ?_))))
    refine wpAny_bind (wpAny_pyIter_list hl (wpAny_bind (wpAny_newObj_type ?_)))
    have hz : (s.heap.push { cls := .type "list_iterator", data := .fields #[.ref l, .int 0 0] }).objs.size = s.heap.objs.size + 1 := size_push' _ _
    rw [hname]
    refine wpAny_pure ⟨plainId_quiet PySem.F.plain_min_loop _, ?_⟩
    have hp : ∀ b o, s.heap.get? b = some o → ((s.heap.push { cls := .type "list_iterator", data := .fields #[.ref l, .int 0 0] }).push { cls := .type "list", data := .seq #[] }).get? b = some o := fun b o e => Heap.get?_push_of_some _ (Heap.get?_push_of_some _ e)
    refine minDef_first (s := { s with heap := (s.heap.push { cls := .type "list_iterator", data := .fields #[.ref l, .int 0 0] }).push { cls := .type "list", data := .seq #[] } }) (I := s.heap.objs.size) (A := A) hh (Nat.ne_of_lt hlt) (S := (s.heap.push { cls := .type "list_iterator", data := .fields #[.ref l, .int 0 0] }).objs.size) (by rw [hz]; exact Nat.ne_of_gt (Nat.lt_succ_self _)) (by rw [hz]; exact Nat.ne_of_gt (Nat.lt_succ_of_lt hlt)) (c := 0)
      ⟨_, Heap.get?_push_of_some _ (Heap.get?_push_size _ rfl), rfl, rfl⟩ (hl.at fun o e => hp _ _ e) (Heap.get?_push_size _ rfl) fun v h' tk hv kp => ?_
    refine h v h' tk hv fun b o e => kp b o (Nat.ne_of_lt (Heap.lt_size e)) ?_ (hp b o e)
    rw [hz]
    exact Nat.ne_of_lt (Nat.lt_succ_of_lt (Heap.lt_size e))
  cases hsig : Manifest.signature? "min" with
  | none => exact wpAny_pure fin
  | some sig =>
    have ha : Bind.checkArgs "min" sig ⟨[.ref l], [(Str.ofString "default", d)]⟩ = pure () := by simpa only [argsOk, hsig] using args_minDef (.ref l) d
    simp only [ha]
    exact wpAny_pure fin
end
def oMinDef : D → Res RV := fun d => (Res.of d.nums).bind fun ns => .ok (.fro (if ns.length = 0 then .non else .int (minI ns)))
def rMinDef (K : PySem.W.Frag) : V → Hp → VK → Prop := fun x H Q => ∃ (a : Addr) (ns : List Int), x = V.ref a ∧ SqL K H a (ns.map V.int) ∧ Q (if ns.length = 0 then .non else .int (minI ns)) H
theorem op_rMinDef {K : PySem.W.Frag} {T : Tab} : Op1 K T (rMinDef K) oMinDef := by
  intro π F S ρ σ H x d res Q R hx hg q
  obtain ⟨ns, e1, hg⟩ := Res.bind_eq hg
  cases hg
  obtain ⟨a, rfl, h⟩ := nums_rd R.sS hx (Res.of_eq e1)
  refine ⟨a, ns, rfl, h, ?_⟩
  by_cases h0 : ns.length = 0
  · rw [if_pos h0] at q ⊢
    exact q S H _ (Same.refl S) R .non
  · rw [if_neg h0] at q ⊢
    exact q S H _ (Same.refl S) R (.int _)
section
variable {X : Cx} {pins : List (Addr × Obj)} {σ : L2.St} {H : Hp} {s : Shared} {p pos kpos npos : Pos} {kj : Nat} {e : Expr}
theorem minDef_turn (hc : X.calm = true) (I : Inv X pins σ H s) {v : V} {u : Value} {Q : VK} (rv : RelV v u) (h : rMinDef X.K v H Q) {E : Value → Shared → Prop} : wpAny (model X.prog X.w) X.A (call (.builtin "min") [u] [(Str.ofString "default", .none)]) (fun u' s' => ∃ v' H', Inv X pins σ H' s' ∧ RelV v' u' ∧ Q v' H') E s := by
  obtain ⟨a, ns, rfl, hs, q⟩ := h
  obtain ⟨its, rits, hl, _⟩ := I.list hs
  cases (show u = Value.ref a from rv)
  have hi := rits.ints
  obtain ⟨xs, e⟩ := hi.allInts.items
  have hn : numsOf (intItems xs).toList = ns := by rw [← e]; exact hi.numsOf
  rw [nums_intItems] at hn
  have hl := hl.isList
  rw [e] at hl
  have sz : ns.length = xs.size := by rw [← hn, List.length_map, Array.length_toList]
  refine call_minDef (I.ok.hd hc) hl fun u' h' tk hv kp => ?_
  by_cases h0 : 0 < xs.size
  · rw [if_pos h0] at hv
    rw [if_neg (by omega)] at q
    obtain ⟨t, rfl⟩ := intItems_at hv
    obtain ⟨h1, h2⟩ := argBest_lt (numAt xs) (xs.size - 1)
    have hm : numAt xs (lowAt xs (xs.size - 1)) ∈ ns := by
      rw [← hn, numAt_eq]; exact PySem.getD_mem (by rw [List.length_map, Array.length_toList]; exact Nat.lt_of_le_of_lt h1 (by omega))
    obtain ⟨m1, m2⟩ := minI_mem (l := ns) (List.length_pos_iff.mp (by omega))
    have em : numAt xs (lowAt xs (xs.size - 1)) = minI ns := by
      refine Int.le_antisymm ?_ (m2 _ hm)
      have m1' : minI ns ∈ xs.toList.map (·.1) := by rw [hn]; exact m1
      obtain ⟨j, hj, ej⟩ := mem_getD m1'
      rw [List.length_map, Array.length_toList] at hj
      rw [← numAt_eq] at ej
      have h3 : numAt xs (lowAt xs (xs.size - 1)) ≤ numAt xs j := h2 j (by omega)
      rw [ej] at h3
      exact h3
    exact ⟨.int (minI ns), H, I.kept kp, ⟨t, by rw [em]⟩, q⟩
  · rw [if_neg h0] at hv
    rw [if_pos (by omega)] at q
    subst hv
    exact ⟨.non, H, I.kept kp, rfl, q⟩
theorem pe_minDef {te : TE} (hc : X.calm = true) (hg : Gl X "min") (hm : X.mg "min" = none) (ha : PE X e te) (he : backTo pos (starEach [e] X.env) = (false, eval e X.env) :: backTo pos (starEach [] X.env) := by rfl) (hpl : (backTo pos (starEach [e] X.env)).any (·.1) = false := by rfl)
    (hall : (backToKw pos (keywordEach [⟨some "default", .Constant .none kj npos, kpos⟩] X.env)).all (·.1.isSome) = true := by rfl) (hnone : (backToKw pos (keywordEach [⟨some "default", .Constant .none kj npos, kpos⟩] X.env)).any (·.1.isNone) = false := by rfl)
    (hks : (backToKw pos (keywordEach [⟨some "default", .Constant .none kj npos, kpos⟩] X.env)).filterMap (·.1) = [Str.ofString "default"] := by rfl)
    (hev : (backToKw pos (keywordEach [⟨some "default", .Constant .none kj npos, kpos⟩] X.env)).map (·.2) = [do let v ← eval (.Constant .none kj npos) X.env; standAt pos; pure v] := by rfl) :
    PE X (.Call (.Name "min" p) [e] [⟨some "default", .Constant .none kj npos, kpos⟩] pos) (fun σ H Q => te σ H fun v H1 => rMinDef X.K v H1 Q) := by
  refine ⟨fun pins s σ H Q I h => ?_⟩
  refine wpAny_Call_Name_kw (ld_blt I hg hm (show bootBuiltins "min" = some (.builtin "min") by decide +kernel) ?_)
  refine PyProof.Rows.callWith_kw ?_ he hpl hall hnone
  rw [he, hks, hev]
  refine Calls.spliced_cons (thn (ha.run pins s σ H _ I h) fun u s1 ⟨v, H1, I1, r1, qk⟩ => ?_)
  refine Calls.spliced_nil ?_
  refine wpAny_evalAll_cons (wpAny_bind (thn (pe_non.run pins s1 σ H1 (fun v' H' => v' = .non ∧ H' = H1) I1 ⟨rfl, rfl⟩) fun u2 s2 ⟨v2, H2, I2, r2, e2, e3⟩ => ?_))
  subst e2 e3
  cases (show u2 = Value.none from r2)
  exact wpAny_bind (wpAny_standAt (wpAny_pure (wpAny_evalAll_nil (minDef_turn hc I2 r1 qk))))
theorem ee_minDef {T : Tab} {fe : EF} (hc : X.calm = true) (hg : Gl X "min") (hm : X.mg "min" = none) (ha : PE X e (SE X.K T fe)) (he : backTo pos (starEach [e] X.env) = (false, eval e X.env) :: backTo pos (starEach [] X.env) := by rfl) (hpl : (backTo pos (starEach [e] X.env)).any (·.1) = false := by rfl)
    (hall : (backToKw pos (keywordEach [⟨some "default", .Constant .none kj npos, kpos⟩] X.env)).all (·.1.isSome) = true := by rfl) (hnone : (backToKw pos (keywordEach [⟨some "default", .Constant .none kj npos, kpos⟩] X.env)).any (·.1.isNone) = false := by rfl)
    (hks : (backToKw pos (keywordEach [⟨some "default", .Constant .none kj npos, kpos⟩] X.env)).filterMap (·.1) = [Str.ofString "default"] := by rfl)
    (hev : (backToKw pos (keywordEach [⟨some "default", .Constant .none kj npos, kpos⟩] X.env)).map (·.2) = [do let v ← eval (.Constant .none kj npos) X.env; standAt pos; pure v] := by rfl) :
    PE X (.Call (.Name "min" p) [e] [⟨some "default", .Constant .none kj npos, kpos⟩] pos) (SE X.K T (e1 oMinDef fe)) :=
  (pe_minDef hc hg hm ha he hpl hall hnone hks hev).imp fun σ H Q ⟨π, F, S0, ρ, r, ρ', R, e, q⟩ => by
    obtain ⟨⟨r1, ρ1⟩, e1, e⟩ := Res.bind_eq e
    obtain ⟨d, e2, e⟩ := Res.bind_eq e
    obtain ⟨res, e3, e⟩ := Res.bind_eq e
    cases e
    refine ⟨π, F, S0, ρ, r1, _, R, e1, fun S1 H1 v s1 R1 rv => ?_⟩
    obtain ⟨S2, s2, R2, hv⟩ := rv.hold R1
    exact op_rMinDef π F S2 _ σ H1 v d _ Q R2 (hv.rd R2 (Res.of_eq e2)) e3 fun S' H' w s' R' rw' => q S' H' w (s1.trans (s2.trans s')) R' rw'
end
end Dt
end

section
set_option Elab.async false
set_option linter.all false
set_option maxRecDepth 100000
set_option maxHeartbeats 4000000
set_option autoImplicit false
namespace Dt
open PySem PySem.Spec PyProof.Rows L2
def top (i : Nat) : Stmt := PySem.Challenge.pw_shutroads_k33_whole_walkers.main.body.getD i (.Pass ⟨0, 0, 0, 0⟩)
structure Ad where
  a : Nat → Addr
  d : Nat → FuncData
  c : Nat → Addr
  p : Nat → Addr
  tc : Addr
  tp : Addr
def flds : Nat → List Str
  | 0 => ["_places", "_roads", "_ends", "_most"]
  | _ => []
def tab (A : Ad) : Tab := ⟨A.c, flds, []⟩
abbrev st__law_number : Stmt := top 50
abbrev st__law_plan : Stmt := top 51
abbrev st_is_integer : Stmt := top 12
abbrev st_is_within : Stmt := top 13
abbrev st__is_triple : Stmt := top 15
abbrev st_ascends : Stmt := top 14
abbrev st_are_triples : Stmt := top 16
abbrev st_are_ends : Stmt := top 17
abbrev st_Map___init__ : Stmt := inClass (top 11) 0
abbrev st__law_some : Stmt := top 54
abbrev st__law_at : Stmt := top 52
abbrev st__law_over : Stmt := top 53
abbrev st__law_far : Stmt := top 55
abbrev st__law_few : Stmt := top 56
abbrev st__law_rest : Stmt := top 57
abbrev st__law_choice : Stmt := top 58
abbrev st__law_walk : Stmt := top 59
abbrev st_check_map : Stmt := top 21
abbrev st_Map___len__ : Stmt := inClass (top 11) 5
abbrev st_is_road : Stmt := top 18
abbrev st_are_roads : Stmt := top 19
abbrev st_Map_most : Stmt := inClass (top 11) 4
abbrev st_is_world : Stmt := top 20
abbrev st_check_world : Stmt := top 22
abbrev st__check_rule : Stmt := top 43
abbrev st__check_walk : Stmt := top 44
abbrev st_Map_roads : Stmt := inClass (top 11) 2
abbrev st_roads_at : Stmt := top 23
abbrev st__unknown_at : Stmt := top 32
abbrev st__state_at : Stmt := top 33
abbrev st__arrival_in : Stmt := top 34
abbrev st_Map_ends : Stmt := inClass (top 11) 3
abbrev st_first_state_in : Stmt := top 36
abbrev st_is_at_goal : Stmt := top 31
abbrev st_Map_places : Stmt := inClass (top 11) 1
abbrev st__lower : Stmt := top 27
abbrev st_least_sums : Stmt := top 29
abbrev st_open_roads : Stmt := top 35
abbrev st_other_end : Stmt := top 24
abbrev st__best_road : Stmt := top 40
abbrev st_road_lengths : Stmt := top 28
abbrev st__next_road : Stmt := top 41
abbrev st_state_after_in : Stmt := top 37
abbrev st__whole_walk : Stmt := top 42
abbrev st_walk : Stmt := top 45
abbrev st_walked : Stmt := top 46
abbrev st_small_sets : Stmt := top 25
abbrev st_worlds : Stmt := top 26
abbrev st_worst : Stmt := top 47
abbrev st_best_rules : Stmt := top 48
abbrev st__law_all_right : Stmt := top 60
abbrev st_law : Stmt := top 61
def isi_int : Isi := ⟨false, true, true, false, false, false, [(0, false)]⟩
def isi_bool : Isi := ⟨false, true, false, false, false, false, [(0, false)]⟩
def isi_tuple : Isi := ⟨false, false, false, false, true, false, [(0, false)]⟩
def isi_list : Isi := ⟨false, false, false, false, false, true, [(0, false)]⟩
def isi_Map : Isi := ⟨false, false, false, false, false, false, [(0, true)]⟩
def isi_str : Isi := ⟨false, false, false, true, false, false, [(0, false)]⟩
structure Tx (K : PySem.W.Frag) (mg : Str → Option Value) (A : Ad) : Prop where
  n_int : mg "int" = none
  n_len : mg "len" = none
  n_sum : mg "sum" = none
  f0 : Fun K "_law_number" "_law_number" st__law_number (A.a 0) (A.d 0)
  b0 : Binds K (A.d 0) ["_law_script", "_law_index"] []
  g0 : mg "_law_number" = some (.ref (A.a 0))
  n_range : mg "range" = none
  n_max : mg "max" = none
  n_min : mg "min" = none
  n_sorted : mg "sorted" = none
  n_tuple : mg "tuple" = none
  f1 : Fun K "_law_plan" "_law_plan" st__law_plan (A.a 1) (A.d 1)
  b1 : Binds K (A.d 1) ["_law_script", "_law_index", "_law_most"] []
  g1 : mg "_law_plan" = some (.ref (A.a 1))
  i_int : IsiOk K (tab A) (.type "int") isi_int
  n_isinstance : mg "isinstance" = none
  i_bool : IsiOk K (tab A) (.type "bool") isi_bool
  n_bool : mg "bool" = none
  f2 : Fun K "is_integer" "is_integer" st_is_integer (A.a 2) (A.d 2)
  b2 : Binds K (A.d 2) ["value"] []
  g2 : mg "is_integer" = some (.ref (A.a 2))
  f3 : Fun K "is_within" "is_within" st_is_within (A.a 3) (A.d 3)
  b3 : Binds K (A.d 3) ["value", "low", "high"] []
  g3 : mg "is_within" = some (.ref (A.a 3))
  c_MOST_PLACES : ∃ t, mg "MOST_PLACES" = some (.int 6 t)
  c_LEAST_PLACES : ∃ t, mg "LEAST_PLACES" = some (.int 2 t)
  i_tuple : IsiOk K (tab A) (.type "tuple") isi_tuple
  c_MOST_ROADS : ∃ t, mg "MOST_ROADS" = some (.int 8 t)
  c_LONGEST : ∃ t, mg "LONGEST" = some (.int 9 t)
  f4 : Fun K "_is_triple" "_is_triple" st__is_triple (A.a 4) (A.d 4)
  b4 : Binds K (A.d 4) ["places", "triple"] []
  g4 : mg "_is_triple" = some (.ref (A.a 4))
  n_all : mg "all" = none
  n_list : mg "list" = none
  n_set : mg "set" = none
  f5 : Fun K "ascends" "ascends" st_ascends (A.a 5) (A.d 5)
  b5 : Binds K (A.d 5) ["items"] []
  g5 : mg "ascends" = some (.ref (A.a 5))
  f6 : Fun K "are_triples" "are_triples" st_are_triples (A.a 6) (A.d 6)
  b6 : Binds K (A.d 6) ["places", "roads"] []
  g6 : mg "are_triples" = some (.ref (A.a 6))
  f7 : Fun K "are_ends" "are_ends" st_are_ends (A.a 7) (A.d 7)
  b7 : Binds K (A.d 7) ["places", "ends"] []
  g7 : mg "are_ends" = some (.ref (A.a 7))
  c_MOST_SHUT : ∃ t, mg "MOST_SHUT" = some (.int 3 t)
  t__places : FldOk K (tab A) [(0, 0)] "_places"
  t__roads : FldOk K (tab A) [(0, 1)] "_roads"
  t__ends : FldOk K (tab A) [(0, 2)] "_ends"
  t__most : FldOk K (tab A) [(0, 3)] "_most"
  f8 : Fun K "__init__" "Map.__init__" st_Map___init__ (A.a 8) (A.d 8)
  b8 : Binds K (A.d 8) ["self", "places", "roads", "ends", "most"] []
  mk0 : Mk K (A.c 0) (A.a 8)
  gc0 : mg "Map" = some (.ref (A.c 0))
  f9 : Fun K "_law_some" "_law_some" st__law_some (A.a 9) (A.d 9)
  b9 : Binds K (A.d 9) ["_law_roads", "_law_most"] []
  g9 : mg "_law_some" = some (.ref (A.a 9))
  tc_RULES : GTup K mg "RULES" ["near", "few", "known"]
  n_enumerate : mg "enumerate" = none
  f10 : Fun K "_law_at" "_law_at" st__law_at (A.a 10) (A.d 10)
  b10 : Binds K (A.d 10) ["_law_plan_here", "_law_place"] []
  g10 : mg "_law_at" = some (.ref (A.a 10))
  f11 : Fun K "_law_over" "_law_over" st__law_over (A.a 11) (A.d 11)
  b11 : Binds K (A.d 11) ["_law_plan_here", "_law_road", "_law_place"] []
  g11 : mg "_law_over" = some (.ref (A.a 11))
  f12 : Fun K "_law_far" "_law_far" st__law_far (A.a 12) (A.d 12)
  b12 : Binds K (A.d 12) ["_law_plan_here", "_law_barred", "_law_place"] []
  g12 : mg "_law_far" = some (.ref (A.a 12))
  f13 : Fun K "_law_few" "_law_few" st__law_few (A.a 13) (A.d 13)
  b13 : Binds K (A.d 13) ["_law_plan_here", "_law_barred", "_law_place"] []
  g13 : mg "_law_few" = some (.ref (A.a 13))
  f14 : Fun K "_law_rest" "_law_rest" st__law_rest (A.a 14) (A.d 14)
  b14 : Binds K (A.d 14) ["_law_plan_here", "_law_free", "_law_shut", "_law_rule", "_law_spot"] []
  g14 : mg "_law_rest" = some (.ref (A.a 14))
  f15 : Fun K "_law_choice" "_law_choice" st__law_choice (A.a 15) (A.d 15)
  b15 : Binds K (A.d 15) ["_law_plan_here", "_law_free", "_law_shut", "_law_rule", "_law_place"] []
  g15 : mg "_law_choice" = some (.ref (A.a 15))
  f16 : Fun K "_law_walk" "_law_walk" st__law_walk (A.a 16) (A.d 16)
  b16 : Binds K (A.d 16) ["_law_plan_here", "_law_world", "_law_rule"] []
  g16 : mg "_law_walk" = some (.ref (A.a 16))
  i_Map : IsiOk K (tab A) (.ref (A.c 0)) isi_Map
  f17 : Fun K "check_map" "check_map" st_check_map (A.a 17) (A.d 17)
  b17 : Binds K (A.d 17) ["chart"] []
  g17 : mg "check_map" = some (.ref (A.a 17))
  f18 : Fun K "__len__" "Map.__len__" st_Map___len__ (A.a 18) (A.d 18)
  b18 : Binds K (A.d 18) ["self"] []
  ln0 : PySem.W.findIn K (.ref (A.c 0)) "__len__" = some (some (.ref (A.a 18)))
  lf0 : PySem.W.isFn K (.ref (A.a 18)) = true
  f19 : Fun K "is_road" "is_road" st_is_road (A.a 19) (A.d 19)
  b19 : Binds K (A.d 19) ["chart", "road"] []
  g19 : mg "is_road" = some (.ref (A.a 19))
  f20 : Fun K "are_roads" "are_roads" st_are_roads (A.a 20) (A.d 20)
  b20 : Binds K (A.d 20) ["chart", "some"] []
  g20 : mg "are_roads" = some (.ref (A.a 20))
  f21 : Fun K "most" "Map.most" st_Map_most (A.a 21) (A.d 21)
  b21 : Binds K (A.d 21) ["self"] []
  cl0 : Cls K (A.c 0)
  p21 : PropOf K (A.c 0) "most" (A.p 21) (A.a 21)
  f22 : Fun K "is_world" "is_world" st_is_world (A.a 22) (A.d 22)
  b22 : Binds K (A.d 22) ["chart", "world"] []
  g22 : mg "is_world" = some (.ref (A.a 22))
  f23 : Fun K "check_world" "check_world" st_check_world (A.a 23) (A.d 23)
  b23 : Binds K (A.d 23) ["chart", "world"] []
  g23 : mg "check_world" = some (.ref (A.a 23))
  i_str : IsiOk K (tab A) (.type "str") isi_str
  n_str : mg "str" = none
  f24 : Fun K "_check_rule" "_check_rule" st__check_rule (A.a 24) (A.d 24)
  b24 : Binds K (A.d 24) ["rule"] []
  g24 : mg "_check_rule" = some (.ref (A.a 24))
  f25 : Fun K "_check_walk" "_check_walk" st__check_walk (A.a 25) (A.d 25)
  b25 : Binds K (A.d 25) ["chart", "world", "rule"] []
  g25 : mg "_check_walk" = some (.ref (A.a 25))
  f26 : Fun K "roads" "Map.roads" st_Map_roads (A.a 26) (A.d 26)
  b26 : Binds K (A.d 26) ["self"] []
  p26 : PropOf K (A.c 0) "roads" (A.p 26) (A.a 26)
  f27 : Fun K "roads_at" "roads_at" st_roads_at (A.a 27) (A.d 27)
  b27 : Binds K (A.d 27) ["chart", "place"] []
  g27 : mg "roads_at" = some (.ref (A.a 27))
  f28 : Fun K "_unknown_at" "_unknown_at" st__unknown_at (A.a 28) (A.d 28)
  b28 : Binds K (A.d 28) ["chart", "place", "clear", "shut"] []
  g28 : mg "_unknown_at" = some (.ref (A.a 28))
  f29 : Fun K "_state_at" "_state_at" st__state_at (A.a 29) (A.d 29)
  b29 : Binds K (A.d 29) ["place", "clear", "shut", "unknown", "closed"] []
  g29 : mg "_state_at" = some (.ref (A.a 29))
  f30 : Fun K "_arrival_in" "_arrival_in" st__arrival_in (A.a 30) (A.d 30)
  b30 : Binds K (A.d 30) ["chart", "world", "place", "clear", "shut"] []
  g30 : mg "_arrival_in" = some (.ref (A.a 30))
  f31 : Fun K "ends" "Map.ends" st_Map_ends (A.a 31) (A.d 31)
  b31 : Binds K (A.d 31) ["self"] []
  p31 : PropOf K (A.c 0) "ends" (A.p 31) (A.a 31)
  f32 : Fun K "first_state_in" "first_state_in" st_first_state_in (A.a 32) (A.d 32)
  b32 : Binds K (A.d 32) ["chart", "world"] []
  g32 : mg "first_state_in" = some (.ref (A.a 32))
  f33 : Fun K "is_at_goal" "is_at_goal" st_is_at_goal (A.a 33) (A.d 33)
  b33 : Binds K (A.d 33) ["chart", "state"] []
  g33 : mg "is_at_goal" = some (.ref (A.a 33))
  f34 : Fun K "places" "Map.places" st_Map_places (A.a 34) (A.d 34)
  b34 : Binds K (A.d 34) ["self"] []
  p34 : PropOf K (A.c 0) "places" (A.p 34) (A.a 34)
  f35 : Fun K "_lower" "_lower" st__lower (A.a 35) (A.d 35)
  b35 : Binds K (A.d 35) ["sums", "start", "end", "price"] []
  g35 : mg "_lower" = some (.ref (A.a 35))
  f36 : Fun K "least_sums" "least_sums" st_least_sums (A.a 36) (A.d 36)
  b36 : Binds K (A.d 36) ["chart", "begin", "shut", "prices"] []
  g36 : mg "least_sums" = some (.ref (A.a 36))
  f37 : Fun K "open_roads" "open_roads" st_open_roads (A.a 37) (A.d 37)
  b37 : Binds K (A.d 37) ["chart", "state"] []
  g37 : mg "open_roads" = some (.ref (A.a 37))
  f38 : Fun K "other_end" "other_end" st_other_end (A.a 38) (A.d 38)
  b38 : Binds K (A.d 38) ["chart", "road", "place"] []
  g38 : mg "other_end" = some (.ref (A.a 38))
  f39 : Fun K "_best_road" "_best_road" st__best_road (A.a 39) (A.d 39)
  b39 : Binds K (A.d 39) ["chart", "state", "shut", "prices"] []
  g39 : mg "_best_road" = some (.ref (A.a 39))
  f40 : Fun K "road_lengths" "road_lengths" st_road_lengths (A.a 40) (A.d 40)
  b40 : Binds K (A.d 40) ["chart"] []
  g40 : mg "road_lengths" = some (.ref (A.a 40))
  f41 : Fun K "_next_road" "_next_road" st__next_road (A.a 41) (A.d 41)
  b41 : Binds K (A.d 41) ["chart", "state", "rule"] []
  g41 : mg "_next_road" = some (.ref (A.a 41))
  f42 : Fun K "state_after_in" "state_after_in" st_state_after_in (A.a 42) (A.d 42)
  b42 : Binds K (A.d 42) ["chart", "world", "state", "road"] []
  g42 : mg "state_after_in" = some (.ref (A.a 42))
  f43 : Fun K "_whole_walk" "_whole_walk" st__whole_walk (A.a 43) (A.d 43)
  b43 : Binds K (A.d 43) ["chart", "world", "rule"] []
  g43 : mg "_whole_walk" = some (.ref (A.a 43))
  f44 : Fun K "walk" "walk" st_walk (A.a 44) (A.d 44)
  b44 : Binds K (A.d 44) ["chart", "world", "rule"] []
  g44 : mg "walk" = some (.ref (A.a 44))
  f45 : Fun K "walked" "walked" st_walked (A.a 45) (A.d 45)
  b45 : Binds K (A.d 45) ["chart", "world", "rule"] []
  g45 : mg "walked" = some (.ref (A.a 45))
  f46 : Fun K "small_sets" "small_sets" st_small_sets (A.a 46) (A.d 46)
  b46 : Binds K (A.d 46) ["roads", "most"] []
  g46 : mg "small_sets" = some (.ref (A.a 46))
  f47 : Fun K "worlds" "worlds" st_worlds (A.a 47) (A.d 47)
  b47 : Binds K (A.d 47) ["chart"] []
  g47 : mg "worlds" = some (.ref (A.a 47))
  f48 : Fun K "worst" "worst" st_worst (A.a 48) (A.d 48)
  b48 : Binds K (A.d 48) ["chart", "rule"] []
  g48 : mg "worst" = some (.ref (A.a 48))
  f49 : Fun K "best_rules" "best_rules" st_best_rules (A.a 49) (A.d 49)
  b49 : Binds K (A.d 49) ["chart"] []
  g49 : mg "best_rules" = some (.ref (A.a 49))
  f50 : Fun K "_law_all_right" "_law_all_right" st__law_all_right (A.a 50) (A.d 50)
  b50 : Binds K (A.d 50) ["_law_script"] []
  g50 : mg "_law_all_right" = some (.ref (A.a 50))
  f51 : Fun K "law" "law" st_law (A.a 51) (A.d 51)
  b51 : Binds K (A.d 51) ["_law_script"] []
  g51 : mg "law" = some (.ref (A.a 51))
section
variable {P : Program} {w : World} {K : PySem.W.Frag} {mg : Str → Option Value} {base : Heap} {A : Ad}
def F__law_number : Fm := runF 2 5 (sCons (sSet 2 (eIf (bB (e2 oNe (eUse 0) (eLst (aNil)))) (eSl none (some 63) (eUse 0)) (eLst (aCons (eC (.int 5)) (aNil))))) (sCons (sSet 3 (e2 oCat (e2 oIx (eUse 2) (e2 oMod (eCB (c1 oIntOf) (aCons (eUse 1) (aNil))) (eCB (c1 oLen) (aCons (eUse 2) (aNil))))) (e2 oMul (eC (.int 13)) (e2 oDiv (eUse 1) (eCB (c1 oLen) (aCons (eUse 2) (aNil))))))) (sCons (sPar 5 6 (e2 oMod (eCB (c1 oIntOf) (aCons (eUse 3) (aNil))) (eC (.int 1000003))) (e2 oMod (eCB (c1 oIntOf) (aCons (e2 oDiv (eUse 3) (eC (.int 1000003))) (aNil))) (eC (.int 999983)))) (sCons (sSet 4 (e2 oMod (eCB (c1 oIntOf) (aCons (e2 oCat (e2 oCat (e2 oMul (e2 oCat (eUse 5) (e2 oMul (eC (.int 977)) (eUse 1))) (eC (.int 48271))) (e2 oMul (eC (.int 31)) (eUse 6))) (e2 oMod (eCB (c1 oIntOf) (aCons (eCB (c1 oSum) (aCons (eUse 2) (aNil))) (aNil))) (eC (.int 65521)))) (aNil))) (eC (.int 2147483647)))) (sRet (e2 oCat (e2 oMul (e2 oMod (eCB (c1 oIntOf) (aCons (e2 oMul (eUse 4) (e2 oCat (e2 oCat (eUse 4) (e2 oMul (eC (.int 31)) (eUse 1))) (eC (.int 7)))) (aNil))) (eC (.int 2147483629))) (eC (.int 65537))) (eUse 6)))))))
theorem sc__law_number : FnScope ["_law_script", "_law_index", "_law_cells", "_law_cell", "_law_blend", "_law_low", "_law_high"] ["_law_script", "_law_index"] (defScope st__law_number) := ⟨rfl, rfl, rfl, by decide +kernel, rfl, by decide +kernel, by decide +kernel⟩
theorem ok__law_number (X : Tx K mg A) (TB : True) : FnOk P w K mg base CX0 1 (A.a 0) (A.d 0) ["_law_script", "_law_index"] (SpF K (tab A) F__law_number) := def_ok (n := 2) (m := 5) X.f0 sc__law_number rfl rfl fun cdv A' outer s H E hr =>
  (ss_cons (ss_set (i := 2) sc__law_number.nd rfl (by first | exact Or.inl rfl | exact Or.inr rfl) (ee_if (tt_ne hr.units (ee_use (pv 0)) (ee_lst aa_nil)) (ee_sl (ee_use (pv 0)) part_none part_int) (ee_lst (aa_cons ee_int aa_nil))))
    (ss_cons (ss_set (i := 3) sc__law_number.nd rfl (by first | exact Or.inl rfl | exact Or.inr rfl) (ee_cat (ee_sub_ (ee_use (pv 2)) (ee_mod (ee_int_ rfl X.n_int (aa_cons (ee_use (pv 1)) aa_nil)) (ee_len rfl X.n_len (aa_cons (ee_use (pv 2)) aa_nil))) (fun _ _ => rfl)) (ee_mul ee_int (ee_div (ee_use (pv 1)) (ee_len rfl X.n_len (aa_cons (ee_use (pv 2)) aa_nil))))))
    (ss_cons (ss_par (i := 5) (j := 6) rfl sc__law_number.nd rfl rfl (by decide) rfl rfl (ee_mod (ee_int_ rfl X.n_int (aa_cons (ee_use (pv 3)) aa_nil)) ee_int) (ee_mod (ee_int_ rfl X.n_int (aa_cons (ee_div (ee_use (pv 3)) ee_int) aa_nil)) ee_int))
    (ss_cons (ss_set (i := 4) sc__law_number.nd rfl (by first | exact Or.inl rfl | exact Or.inr rfl) (ee_mod (ee_int_ rfl X.n_int (aa_cons (ee_cat (ee_cat (ee_mul (ee_cat (ee_use (pv 5)) (ee_mul ee_int (ee_use (pv 1)))) ee_int) (ee_mul ee_int (ee_use (pv 6)))) (ee_mod (ee_int_ rfl X.n_int (aa_cons (ee_sum rfl rfl X.n_sum (aa_cons (ee_use (pv 2)) aa_nil)) aa_nil)) ee_int)) aa_nil)) ee_int))
    (ss_one (ss_ret (ee_cat (ee_mul (ee_mod (ee_int_ rfl X.n_int (aa_cons (ee_mul (ee_use (pv 4)) (ee_cat (ee_cat (ee_use (pv 4)) (ee_mul ee_int (ee_use (pv 1)))) ee_int)) aa_nil)) ee_int) ee_int) (ee_use (pv 6)))))))))
def F__law_plan : Fm := runF 3 13 (sCons (sParL [7, 8, 9] (aoCons (e2 oCat (eC (.int 2)) (e2 oMod (eCB (c1 oIntOf) (aCons (eCall F__law_number (aCons (eVar 0) (aCons (eVar 1) (aNil)))) (aNil))) (eC (.int 3)))) (aoCons (e2 oMod (eCB (c1 oIntOf) (aCons (eCall F__law_number (aCons (eVar 0) (aCons (e2 oCat (eUse 1) (eC (.int 3))) (aNil)))) (aNil))) (eC (.int 4))) (aoCons (eDNew true) (aoNil))))) (sCons (sPar 10 11 (e2 oIx (eTup (aCons (eC (.int 2)) (aCons (eC (.int 9)) (aNil)))) (e2 oMod (eCB (c1 oIntOf) (aCons (eCall F__law_number (aCons (eVar 0) (aCons (e2 oCat (eUse 1) (eC (.int 1))) (aNil)))) (aNil))) (eC (.int 2)))) (e2 oCat (eC (.int 1)) (e2 oMod (eCB (c1 oIntOf) (aCons (eCall F__law_number (aCons (eVar 0) (aCons (e2 oCat (eUse 1) (eC (.int 22))) (aNil)))) (aNil))) (eC (.int 2))))) (sCons (sFor (gN 3) (iRange1 (aCons (e2 oCat (e2 oMod (eCB (c1 oIntOf) (aCons (eCall F__law_number (aCons (eVar 0) (aCons (e2 oCat (eUse 1) (eC (.int 2))) (aNil)))) (aNil))) (eUse 2)) (eIf (bB (e2 oEq (eUse 8) (eC (.int 0)))) (eC (.int 1)) (eC (.int 0)))) (aNil))) (sCons (sSet 12 (eCall F__law_number (aCons (eVar 0) (aCons (e2 oCat (e2 oCat (eUse 1) (eC (.int 5))) (eUse 3)) (aNil))))) (sCons (sPar 14 15 (e2 oMod (eCB (c1 oIntOf) (aCons (eUse 12) (aNil))) (eUse 7)) (e2 oMod (eCB (c1 oIntOf) (aCons (e2 oDiv (eUse 12) (eC (.int 11))) (aNil))) (eUse 7))) (sIf (bAnd (bB (e2 oNe (eUse 14) (eUse 15))) (bB (e2 oLt (eCB (c1 oDLen) (aCons (eUse 9) (aNil))) (eUse 2)))) (sDPut 9 (eTup (aCons (eCB (c2 oMin2) (aCons (eUse 14) (aCons (eUse 15) (aNil)))) (aCons (eCB (c2 oMax2) (aCons (eUse 14) (aCons (eUse 15) (aNil)))) (aCons (e2 oCat (eC (.int 1)) (e2 oMod (eCB (c1 oIntOf) (aCons (e2 oDiv (eUse 12) (eC (.int 130))) (aNil))) (eUse 10))) (aNil))))) (eC (.bl true))) (sNil))))) (sCons (sIf (bOr (bB (e2 oEqE (eUse 9) (eDNew true))) (bB (e2 oGt (eUse 8) (eC (.int 1))))) (sDPut 9 (eTup (aCons (eC (.int 0)) (aCons (e2 oSub (eUse 7) (eC (.int 1))) (aCons (eVar 10) (aNil))))) (eC (.bl true))) (sNil)) (sCons (sIf (bB (e2 oGt (eUse 8) (eC (.int 0)))) (sFor (gN 13) (iRange1 (aCons (e2 oSub (eUse 7) (eC (.int 1))) (aNil))) (sIf (bB (e2 oLt (eCB (c1 oDLen) (aCons (eUse 9) (aNil))) (eC (.int 8)))) (sDPut 9 (eTup (aCons (eVar 13) (aCons (e2 oCat (eUse 13) (eC (.int 1))) (aCons (eVar 11) (aNil))))) (eC (.bl true))) (sNil))) (sNil)) (sCons (sSet 4 (eIf (bB (e2 oEq (eUse 8) (eC (.int 0)))) (e2 oMod (eCB (c1 oIntOf) (aCons (eCall F__law_number (aCons (eVar 0) (aCons (e2 oCat (eUse 1) (eC (.int 4))) (aNil)))) (aNil))) (eUse 7)) (eC (.int 0)))) (sCons (sSet 5 (eIf (bB (e2 oEq (eUse 8) (eC (.int 0)))) (e2 oMod (eCB (c1 oIntOf) (aCons (e2 oCat (e2 oCat (eUse 4) (eC (.int 1))) (e2 oMod (eCB (c1 oIntOf) (aCons (eCall F__law_number (aCons (eVar 0) (aCons (e2 oCat (eUse 1) (eC (.int 20))) (aNil)))) (aNil))) (e2 oSub (eUse 7) (eC (.int 1))))) (aNil))) (eUse 7)) (e2 oSub (eUse 7) (eC (.int 1))))) (sCons (sSet 6 (eIf (bB (e2 oEq (e2 oMod (eCB (c1 oIntOf) (aCons (eCall F__law_number (aCons (eVar 0) (aCons (e2 oCat (eUse 1) (eC (.int 23))) (aNil)))) (aNil))) (eC (.int 2))) (eC (.int 0)))) (eTup (aCons (eVar 4) (aCons (eVar 5) (aNil)))) (eTup (aCons (eVar 5) (aCons (eVar 4) (aNil)))))) (sRet (eTup (aCons (eVar 7) (aCons (eCB (c1 oTupOf) (aCons (eCB (c1 oSortN) (aCons (eUse 9) (aNil))) (aNil))) (aCons (eVar 6) (aCons (e2 oMod (eCB (c1 oIntOf) (aCons (eCall F__law_number (aCons (eVar 0) (aCons (e2 oCat (eUse 1) (eC (.int 21))) (aNil)))) (aNil))) (eC (.int 4))) (aNil)))))))))))))))
theorem sc__law_plan : FnScope ["_law_script", "_law_index", "_law_most", "_law_turn", "_law_start", "_law_goal", "_law_ends", "_law_many", "_law_kind", "_law_found", "_law_top", "_law_short", "_law_seed", "_law_place", "_law_one", "_law_other"] ["_law_script", "_law_index", "_law_most"] (defScope st__law_plan) := ⟨rfl, rfl, rfl, by decide +kernel, rfl, by decide +kernel, by decide +kernel⟩
theorem ok__law_plan (X : Tx K mg A) (TB : True) : FnOk P w K mg base CX0 2 (A.a 1) (A.d 1) ["_law_script", "_law_index", "_law_most"] (SpF K (tab A) F__law_plan) := def_ok (n := 3) (m := 13) X.f1 sc__law_plan rfl rfl fun cdv A' outer s H E hr =>
  (ss_cons (ss_par3 (i := 7) (j := 8) (l := 9) rfl sc__law_plan.nd rfl rfl rfl (by decide) (by decide) (by decide) rfl rfl rfl (ao_cons (ee_cat ee_int (ee_mod (ee_int_ rfl X.n_int (aa_cons (ee_call (ok__law_number X TB) (hr.mono (by decide : 1 ≤ 1)) rfl X.g0 X.f0.kp X.b0 pass0 (aa_cons (ee_var (pv 0)) (aa_cons (ee_var (pv 1)) aa_nil))) aa_nil)) ee_int)) (ao_cons (ee_mod (ee_int_ rfl X.n_int (aa_cons (ee_call (ok__law_number X TB) (hr.mono (by decide : 1 ≤ 1)) rfl X.g0 X.f0.kp X.b0 pass0 (aa_cons (ee_var (pv 0)) (aa_cons (ee_cat (ee_use (pv 1)) ee_int) aa_nil))) aa_nil)) ee_int) (ao_cons ee_dnewN ao_nil))))
    (ss_cons (ss_par (i := 10) (j := 11) rfl sc__law_plan.nd rfl rfl (by decide) rfl rfl (ee_sub_ (ee_tup (aa_cons ee_int (aa_cons ee_int aa_nil))) (ee_mod (ee_int_ rfl X.n_int (aa_cons (ee_call (ok__law_number X TB) (hr.mono (by decide : 1 ≤ 1)) rfl X.g0 X.f0.kp X.b0 pass0 (aa_cons (ee_var (pv 0)) (aa_cons (ee_cat (ee_use (pv 1)) ee_int) aa_nil))) aa_nil)) ee_int) (fun _ _ => rfl)) (ee_cat ee_int (ee_mod (ee_int_ rfl X.n_int (aa_cons (ee_call (ok__law_number X TB) (hr.mono (by decide : 1 ≤ 1)) rfl X.g0 X.f0.kp X.b0 pass0 (aa_cons (ee_var (pv 0)) (aa_cons (ee_cat (ee_use (pv 1)) ee_int) aa_nil))) aa_nil)) ee_int)))
    (ss_cons (ss_for PassesOwn.never rfl (ii_range1 rfl X.n_range (aa_cons (ee_cat (ee_mod (ee_int_ rfl X.n_int (aa_cons (ee_call (ok__law_number X TB) (hr.mono (by decide : 1 ≤ 1)) rfl X.g0 X.f0.kp X.b0 pass0 (aa_cons (ee_var (pv 0)) (aa_cons (ee_cat (ee_use (pv 1)) ee_int) aa_nil))) aa_nil)) (ee_use (pv 2))) (ee_if (tt_eq hr.units (ee_use (pv 8)) ee_int) ee_int ee_int)) aa_nil)) (gg_name (i := 3) sc__law_plan.nd rfl (by first | exact Or.inl rfl | exact Or.inr rfl)) (ss_cons (ss_set (i := 12) sc__law_plan.nd rfl (by first | exact Or.inl rfl | exact Or.inr rfl) (ee_call (ok__law_number X TB) (hr.mono (by decide : 1 ≤ 1)) rfl X.g0 X.f0.kp X.b0 pass0 (aa_cons (ee_var (pv 0)) (aa_cons (ee_cat (ee_cat (ee_use (pv 1)) ee_int) (ee_use (pv 3))) aa_nil))))
    (ss_cons (ss_par (i := 14) (j := 15) rfl sc__law_plan.nd rfl rfl (by decide) rfl rfl (ee_mod (ee_int_ rfl X.n_int (aa_cons (ee_use (pv 12)) aa_nil)) (ee_use (pv 7))) (ee_mod (ee_int_ rfl X.n_int (aa_cons (ee_div (ee_use (pv 12)) ee_int) aa_nil)) (ee_use (pv 7))))
    (ss_one (ss_if (PW.pt (tw_and (tt_ne hr.units (ee_use (pv 14)) (ee_use (pv 15))) (tw_and1 (tt_lt (ee_dlen rfl X.n_len (aa_cons (ee_use (pv 9)) aa_nil)) (ee_use (pv 2)))))) (ss_one (ss_dput (i := 9) hr.units (pv 9) (ee_tup (aa_cons (ee_min2 rfl rfl X.n_min (aa_cons (ee_use (pv 14)) (aa_cons (ee_use (pv 15)) aa_nil))) (aa_cons (ee_max2 rfl rfl X.n_max (aa_cons (ee_use (pv 14)) (aa_cons (ee_use (pv 15)) aa_nil))) (aa_cons (ee_cat ee_int (ee_mod (ee_int_ rfl X.n_int (aa_cons (ee_div (ee_use (pv 12)) ee_int) aa_nil)) (ee_use (pv 10)))) aa_nil)))) ee_bl)) ss_nil)))))
    (ss_cons (ss_if (PW.pt (tw_or (tt_eqE hr.units (ee_use (pv 9)) ee_dnewN) (tw_or1 (tt_gt (ee_use (pv 8)) ee_int)))) (ss_one (ss_dput (i := 9) hr.units (pv 9) (ee_tup (aa_cons ee_int (aa_cons (ee_sub (ee_use (pv 7)) ee_int) (aa_cons (ee_var (pv 10)) aa_nil)))) ee_bl)) ss_nil)
    (ss_cons (ss_if (tt_gt (ee_use (pv 8)) ee_int) (ss_one (ss_for PassesOwn.never rfl (ii_range1 rfl X.n_range (aa_cons (ee_sub (ee_use (pv 7)) ee_int) aa_nil)) (gg_name (i := 13) sc__law_plan.nd rfl (by first | exact Or.inl rfl | exact Or.inr rfl)) (ss_one (ss_if (tt_lt (ee_dlen rfl X.n_len (aa_cons (ee_use (pv 9)) aa_nil)) ee_int) (ss_one (ss_dput (i := 9) hr.units (pv 9) (ee_tup (aa_cons (ee_var (pv 13)) (aa_cons (ee_cat (ee_use (pv 13)) ee_int) (aa_cons (ee_var (pv 11)) aa_nil)))) ee_bl)) ss_nil)))) ss_nil)
    (ss_cons (ss_set (i := 4) sc__law_plan.nd rfl (by first | exact Or.inl rfl | exact Or.inr rfl) (ee_if (tt_eq hr.units (ee_use (pv 8)) ee_int) (ee_mod (ee_int_ rfl X.n_int (aa_cons (ee_call (ok__law_number X TB) (hr.mono (by decide : 1 ≤ 1)) rfl X.g0 X.f0.kp X.b0 pass0 (aa_cons (ee_var (pv 0)) (aa_cons (ee_cat (ee_use (pv 1)) ee_int) aa_nil))) aa_nil)) (ee_use (pv 7))) ee_int))
    (ss_cons (ss_set (i := 5) sc__law_plan.nd rfl (by first | exact Or.inl rfl | exact Or.inr rfl) (ee_if (tt_eq hr.units (ee_use (pv 8)) ee_int) (ee_mod (ee_int_ rfl X.n_int (aa_cons (ee_cat (ee_cat (ee_use (pv 4)) ee_int) (ee_mod (ee_int_ rfl X.n_int (aa_cons (ee_call (ok__law_number X TB) (hr.mono (by decide : 1 ≤ 1)) rfl X.g0 X.f0.kp X.b0 pass0 (aa_cons (ee_var (pv 0)) (aa_cons (ee_cat (ee_use (pv 1)) ee_int) aa_nil))) aa_nil)) (ee_sub (ee_use (pv 7)) ee_int))) aa_nil)) (ee_use (pv 7))) (ee_sub (ee_use (pv 7)) ee_int)))
    (ss_cons (ss_set (i := 6) sc__law_plan.nd rfl (by first | exact Or.inl rfl | exact Or.inr rfl) (ee_if (tt_eq hr.units (ee_mod (ee_int_ rfl X.n_int (aa_cons (ee_call (ok__law_number X TB) (hr.mono (by decide : 1 ≤ 1)) rfl X.g0 X.f0.kp X.b0 pass0 (aa_cons (ee_var (pv 0)) (aa_cons (ee_cat (ee_use (pv 1)) ee_int) aa_nil))) aa_nil)) ee_int) ee_int) (ee_tup (aa_cons (ee_var (pv 4)) (aa_cons (ee_var (pv 5)) aa_nil))) (ee_tup (aa_cons (ee_var (pv 5)) (aa_cons (ee_var (pv 4)) aa_nil)))))
    (ss_one (ss_ret (ee_tup (aa_cons (ee_var (pv 7)) (aa_cons (ee_tuple rfl X.n_tuple (aa_cons (ee_sortN rfl rfl X.n_sorted (aa_cons (ee_use (pv 9)) aa_nil)) aa_nil)) (aa_cons (ee_var (pv 6)) (aa_cons (ee_mod (ee_int_ rfl X.n_int (aa_cons (ee_call (ok__law_number X TB) (hr.mono (by decide : 1 ≤ 1)) rfl X.g0 X.f0.kp X.b0 pass0 (aa_cons (ee_var (pv 0)) (aa_cons (ee_cat (ee_use (pv 1)) ee_int) aa_nil))) aa_nil)) ee_int) aa_nil)))))))))))))))
def F_is_integer : Fm := runF 1 0 (sRet (eAnd (e1 (oIsi isi_int) (eUse 0)) (eNot (e1 (oIsi isi_bool) (eUse 0)))))
theorem sc_is_integer : FnScope ["value"] ["value"] (defScope st_is_integer) := ⟨rfl, rfl, rfl, by decide +kernel, rfl, by decide +kernel, by decide +kernel⟩
theorem ok_is_integer (X : Tx K mg A) (TB : True) : FnOk P w K mg base CX0 1 (A.a 2) (A.d 2) ["value"] (SpF K (tab A) F_is_integer) := def_ok (n := 1) (m := 0) X.f2 sc_is_integer rfl rfl fun cdv A' outer s H E hr =>
  (ss_one (ss_ret (ee_and (ee_isi (.ty "int") X.i_int rfl X.n_isinstance (ee_use (pv 0)) (pe_bltn rfl X.n_int (by decide +kernel) rfl)) (ee_one (ee_not (ee_isi (.ty "bool") X.i_bool rfl X.n_isinstance (ee_use (pv 0)) (pe_bltn rfl X.n_bool (by decide +kernel) rfl)))))))
def F_is_within : Fm := runF 3 0 (sRet (eAnd (eCall F_is_integer (aCons (eVar 0) (aNil))) (eChain oLe oLe (eUse 1) (eUse 0) (eUse 2))))
theorem sc_is_within : FnScope ["value", "low", "high"] ["value", "low", "high"] (defScope st_is_within) := ⟨rfl, rfl, rfl, by decide +kernel, rfl, by decide +kernel, by decide +kernel⟩
theorem ok_is_within (X : Tx K mg A) (TB : True) : FnOk P w K mg base CX0 2 (A.a 3) (A.d 3) ["value", "low", "high"] (SpF K (tab A) F_is_within) := def_ok (n := 3) (m := 0) X.f3 sc_is_within rfl rfl fun cdv A' outer s H E hr =>
  (ss_one (ss_ret (ee_and (ee_call (ok_is_integer X TB) (hr.mono (by decide : 1 ≤ 1)) rfl X.g2 X.f2.kp X.b2 pass0 (aa_cons (ee_var (pv 0)) aa_nil)) (ee_one (ee_lele (ee_use (pv 1)) (ee_use (pv 0)) (ee_use (pv 2)))))))
def F__is_triple : Fm := runF 2 3 (sCons (sIf (bOr (bNot (bB (e1 (oIsi isi_tuple) (eUse 1)))) (bB (e2 oNe (eCB (c1 oLen) (aCons (eUse 1) (aNil))) (eC (.int 3))))) (sRet (eC (.bl false))) (sNil)) (sCons (sAsg (gT 3 (gsCons (gN 2) (gsCons (gN 3) (gsCons (gN 4) (gsNil))))) (eVar 1)) (sRet (eAnd (eCall F_is_within (aCons (eVar 3) (aCons (eC (.int 1)) (aCons (e2 oSub (eUse 0) (eC (.int 1))) (aNil))))) (eAnd (eCall F_is_within (aCons (eVar 2) (aCons (eC (.int 0)) (aCons (e2 oSub (eUse 3) (eC (.int 1))) (aNil))))) (eCall F_is_within (aCons (eVar 4) (aCons (eC (.int 1)) (aCons (eC (.int 9)) (aNil))))))))))
theorem sc__is_triple : FnScope ["places", "triple", "first", "second", "length"] ["places", "triple"] (defScope st__is_triple) := ⟨rfl, rfl, rfl, by decide +kernel, rfl, by decide +kernel, by decide +kernel⟩
theorem ok__is_triple (X : Tx K mg A) (TB : True) : FnOk P w K mg base CX0 3 (A.a 4) (A.d 4) ["places", "triple"] (SpF K (tab A) F__is_triple) := def_ok (n := 2) (m := 3) X.f4 sc__is_triple rfl rfl fun cdv A' outer s H E hr =>
  (ss_cons (ss_if (PW.pt (tw_or (tt_not (tt_B (ee_isi (.ty "tuple") X.i_tuple rfl X.n_isinstance (ee_use (pv 1)) (pe_bltn rfl X.n_tuple (by decide +kernel) rfl)))) (tw_or1 (tt_ne hr.units (ee_len rfl X.n_len (aa_cons (ee_use (pv 1)) aa_nil)) ee_int)))) (ss_one (ss_ret ee_bl)) ss_nil)
    (ss_cons (ss_asg (ee_var (pv 1)) (gg_tup rfl (ggs_cons (gg_name (i := 2) sc__is_triple.nd rfl (by first | exact Or.inl rfl | exact Or.inr rfl)) (ggs_cons (gg_name (i := 3) sc__is_triple.nd rfl (by first | exact Or.inl rfl | exact Or.inr rfl)) (ggs_cons (gg_name (i := 4) sc__is_triple.nd rfl (by first | exact Or.inl rfl | exact Or.inr rfl)) ggs_nil)))))
    (ss_one (ss_ret (ee_and (ee_call (ok_is_within X TB) (hr.mono (by decide : 2 ≤ 2)) rfl X.g3 X.f3.kp X.b3 pass0 (aa_cons (ee_var (pv 3)) (aa_cons ee_int (aa_cons (ee_sub (ee_use (pv 0)) ee_int) aa_nil)))) (ee_and (ee_call (ok_is_within X TB) (hr.mono (by decide : 2 ≤ 2)) rfl X.g3 X.f3.kp X.b3 pass0 (aa_cons (ee_var (pv 2)) (aa_cons ee_int (aa_cons (ee_sub (ee_use (pv 3)) ee_int) aa_nil)))) (ee_one (ee_call (ok_is_within X TB) (hr.mono (by decide : 2 ≤ 2)) rfl X.g3 X.f3.kp X.b3 pass0 (aa_cons (ee_var (pv 4)) (aa_cons ee_int (aa_cons (ee_gint rfl X.c_LONGEST) aa_nil)))))))))))
def F_ascends : Fm := runF 1 0 (sRet (e2 oEq (eCB (c1 oListOf) (aCons (eUse 0) (aNil))) (e1 oSSet (eUse 0))))
theorem sc_ascends : FnScope ["items"] ["items"] (defScope st_ascends) := ⟨rfl, rfl, rfl, by decide +kernel, rfl, by decide +kernel, by decide +kernel⟩
theorem ok_ascends (X : Tx K mg A) (TB : True) : FnOk P w K mg base CX0 1 (A.a 5) (A.d 5) ["items"] (SpF K (tab A) F_ascends) := def_ok (n := 1) (m := 0) X.f5 sc_ascends rfl rfl fun cdv A' outer s H E hr =>
  (ss_one (ss_ret (ee_eq hr.units (ee_list rfl X.n_list (aa_cons (ee_use (pv 0)) aa_nil)) (ee_sset rfl hr.units rfl X.n_sorted rfl X.n_set (ee_use (pv 0))))))
def F_are_triples : Fm := runF 2 1 (sCons (sIf (bOr (bNot (bB (e1 (oIsi isi_tuple) (eUse 1)))) (bNot (bB (eChain oLe oLe (eC (.int 1)) (eCB (c1 oLen) (aCons (eUse 1) (aNil))) (eC (.int 8)))))) (sRet (eC (.bl false))) (sNil)) (sRet (eAnd (eCB (c1 oAll) (aCons (eLc (gN 2) [2] (iData (eVar 1)) (bYes) (eCall F__is_triple (aCons (eVar 0) (aCons (eVar 2) (aNil))))) (aNil))) (eCall F_ascends (aCons (eVar 1) (aNil))))))
theorem sc_are_triples : FnScope ["places", "roads", "triple"] ["places", "roads"] (defScope st_are_triples) := ⟨rfl, rfl, rfl, by decide +kernel, rfl, by decide +kernel, by decide +kernel⟩
theorem ok_are_triples (X : Tx K mg A) (TB : True) : FnOk P w K mg base CX0 4 (A.a 6) (A.d 6) ["places", "roads"] (SpF K (tab A) F_are_triples) := def_ok (n := 2) (m := 1) X.f6 sc_are_triples rfl rfl fun cdv A' outer s H E hr =>
  (ss_cons (ss_if (PW.pt (tw_or (tt_not (tt_B (ee_isi (.ty "tuple") X.i_tuple rfl X.n_isinstance (ee_use (pv 1)) (pe_bltn rfl X.n_tuple (by decide +kernel) rfl)))) (tw_or1 (tt_not (tt_lele ee_int (ee_len rfl X.n_len (aa_cons (ee_use (pv 1)) aa_nil)) (ee_gint rfl X.c_MOST_ROADS)))))) (ss_one (ss_ret ee_bl)) ss_nil)
    (ss_one (ss_ret (ee_and (ee_all rfl rfl X.n_all (aa_cons (ee_lc (own := [("triple", 2)]) rfl sc_are_triples.nd (ii_data (ee_var (pv 1))) (by exact blkOk_by (N := ["places", "roads", "triple"]) (sc := defScope st_are_triples) (own := [("triple", 2)]) (by decide +kernel)) (fun _ _ _ _ _ => (gg_name (i := 2) sc_are_triples.nd rfl (by first | exact Or.inl rfl | exact Or.inr rfl))) (fun _ _ _ _ _ => ts_nil) (fun _ _ _ _ _ => (ee_call (ok__is_triple X TB) (hr.mono (by decide : 3 ≤ 3)) rfl X.g4 X.f4.kp X.b4 pass0 (aa_cons (ee_var (pv 0)) (aa_cons (ee_var (pv 2)) aa_nil))))) aa_nil)) (ee_one (ee_call (ok_ascends X TB) (hr.mono (by decide : 1 ≤ 3)) rfl X.g5 X.f5.kp X.b5 pass0 (aa_cons (ee_var (pv 1)) aa_nil)))))))
def F_are_ends : Fm := runF 2 1 (sCons (sIf (bOr (bNot (bB (e1 (oIsi isi_tuple) (eUse 1)))) (bB (e2 oNe (eCB (c1 oLen) (aCons (eUse 1) (aNil))) (eC (.int 2))))) (sRet (eC (.bl false))) (sNil)) (sRet (eAnd (eCB (c1 oAll) (aCons (eLc (gN 2) [2] (iData (eVar 1)) (bYes) (eCall F_is_within (aCons (eVar 2) (aCons (eC (.int 0)) (aCons (e2 oSub (eUse 0) (eC (.int 1))) (aNil)))))) (aNil))) (e2 oNe (e2 oIx (eUse 1) (eC (.int 0))) (e2 oIx (eUse 1) (eC (.int 1)))))))
theorem sc_are_ends : FnScope ["places", "ends", "place"] ["places", "ends"] (defScope st_are_ends) := ⟨rfl, rfl, rfl, by decide +kernel, rfl, by decide +kernel, by decide +kernel⟩
theorem ok_are_ends (X : Tx K mg A) (TB : True) : FnOk P w K mg base CX0 3 (A.a 7) (A.d 7) ["places", "ends"] (SpF K (tab A) F_are_ends) := def_ok (n := 2) (m := 1) X.f7 sc_are_ends rfl rfl fun cdv A' outer s H E hr =>
  (ss_cons (ss_if (PW.pt (tw_or (tt_not (tt_B (ee_isi (.ty "tuple") X.i_tuple rfl X.n_isinstance (ee_use (pv 1)) (pe_bltn rfl X.n_tuple (by decide +kernel) rfl)))) (tw_or1 (tt_ne hr.units (ee_len rfl X.n_len (aa_cons (ee_use (pv 1)) aa_nil)) ee_int)))) (ss_one (ss_ret ee_bl)) ss_nil)
    (ss_one (ss_ret (ee_and (ee_all rfl rfl X.n_all (aa_cons (ee_lc (own := [("place", 2)]) rfl sc_are_ends.nd (ii_data (ee_var (pv 1))) (by exact blkOk_by (N := ["places", "ends", "place"]) (sc := defScope st_are_ends) (own := [("place", 2)]) (by decide +kernel)) (fun _ _ _ _ _ => (gg_name (i := 2) sc_are_ends.nd rfl (by first | exact Or.inl rfl | exact Or.inr rfl))) (fun _ _ _ _ _ => ts_nil) (fun _ _ _ _ _ => (ee_call (ok_is_within X TB) (hr.mono (by decide : 2 ≤ 2)) rfl X.g3 X.f3.kp X.b3 pass0 (aa_cons (ee_var (pv 2)) (aa_cons ee_int (aa_cons (ee_sub (ee_use (pv 0)) ee_int) aa_nil)))))) aa_nil)) (ee_one (ee_ne hr.units (ee_sub_ (ee_use (pv 1)) ee_int (fun _ _ => rfl)) (ee_sub_ (ee_use (pv 1)) ee_int (fun _ _ => rfl))))))))
def F_Map___init__ : Fm := runF 5 0 (sCons (sIf (bNot (bB (eCall F_is_within (aCons (eVar 1) (aCons (eC (.int 2)) (aCons (eC (.int 6)) (aNil))))))) (sBad) (sNil)) (sCons (sIf (bNot (bB (eCall F_are_triples (aCons (eVar 1) (aCons (eVar 2) (aNil)))))) (sBad) (sNil)) (sCons (sIf (bNot (bB (eCall F_are_ends (aCons (eVar 1) (aCons (eVar 3) (aNil)))))) (sBad) (sNil)) (sCons (sIf (bNot (bB (eCall F_is_within (aCons (eVar 4) (aCons (eC (.int 0)) (aCons (eC (.int 3)) (aNil))))))) (sBad) (sNil)) (sCons (sFld 0 [(0, 0)] (eVar 1)) (sCons (sFld 0 [(0, 1)] (eVar 2)) (sCons (sFld 0 [(0, 2)] (eVar 3)) (sFld 0 [(0, 3)] (eVar 4)))))))))
theorem sc_Map___init__ : FnScope ["self", "places", "roads", "ends", "most"] ["self", "places", "roads", "ends", "most"] (defScope st_Map___init__) := ⟨rfl, rfl, rfl, by decide +kernel, rfl, by decide +kernel, by decide +kernel⟩
theorem ok_Map___init__ (X : Tx K mg A) (TB : True) : FnOk P w K mg base CX0 5 (A.a 8) (A.d 8) ["self", "places", "roads", "ends", "most"] (SpF K (tab A) F_Map___init__) := def_ok (n := 5) (m := 0) X.f8 sc_Map___init__ rfl rfl fun cdv A' outer s H E hr =>
  (ss_cons (ss_if (tt_not (tt_B (ee_call (ok_is_within X TB) (hr.mono (by decide : 2 ≤ 4)) rfl X.g3 X.f3.kp X.b3 pass0 (aa_cons (ee_var (pv 1)) (aa_cons (ee_gint rfl X.c_LEAST_PLACES) (aa_cons (ee_gint rfl X.c_MOST_PLACES) aa_nil)))))) (ss_one ss_bad) ss_nil)
    (ss_cons (ss_if (tt_not (tt_B (ee_call (ok_are_triples X TB) (hr.mono (by decide : 4 ≤ 4)) rfl X.g6 X.f6.kp X.b6 pass0 (aa_cons (ee_var (pv 1)) (aa_cons (ee_var (pv 2)) aa_nil))))) (ss_one ss_bad) ss_nil)
    (ss_cons (ss_if (tt_not (tt_B (ee_call (ok_are_ends X TB) (hr.mono (by decide : 3 ≤ 4)) rfl X.g7 X.f7.kp X.b7 pass0 (aa_cons (ee_var (pv 1)) (aa_cons (ee_var (pv 3)) aa_nil))))) (ss_one ss_bad) ss_nil)
    (ss_cons (ss_if (tt_not (tt_B (ee_call (ok_is_within X TB) (hr.mono (by decide : 2 ≤ 4)) rfl X.g3 X.f3.kp X.b3 pass0 (aa_cons (ee_var (pv 4)) (aa_cons ee_int (aa_cons (ee_gint rfl X.c_MOST_SHUT) aa_nil)))))) (ss_one ss_bad) ss_nil)
    (ss_cons (ss_fld (i := 0) X.t__places (pv 0) (ee_var (pv 1)))
    (ss_cons (ss_fld (i := 0) X.t__roads (pv 0) (ee_var (pv 2)))
    (ss_cons (ss_fld (i := 0) X.t__ends (pv 0) (ee_var (pv 3)))
    (ss_one (ss_fld (i := 0) X.t__most (pv 0) (ee_var (pv 4)))))))))))
def F__law_some : Fm := runF 2 4 (sCons (sSet 2 (eLst (aCons (eTup (aNil)) (aNil)))) (sCons (sFor (gN 3) (iData (eVar 0)) (sSet 2 (e2 oCat (eUse 2) (eLc (gN 5) [5] (iData (eVar 2)) (bB (e2 oLt (eCB (c1 oLen) (aCons (eUse 5) (aNil))) (eUse 1))) (e2 oCat (eUse 5) (eTup (aCons (eVar 3) (aNil)))))))) (sRet (eLc (gT 2 (gsCons (gN 4) (gsCons (gN 5) (gsNil)))) [4, 5] (iData (eCB (c1 oSorted) (aCons (eLc (gN 5) [5] (iData (eVar 2)) (bYes) (eTup (aCons (eCB (c1 oLen) (aCons (eUse 5) (aNil))) (aCons (eVar 5) (aNil))))) (aNil)))) (bYes) (eVar 5)))))
theorem sc__law_some : FnScope ["_law_roads", "_law_most", "_law_found", "_law_road", "_law_size", "_law_some_here"] ["_law_roads", "_law_most"] (defScope st__law_some) := ⟨rfl, rfl, rfl, by decide +kernel, rfl, by decide +kernel, by decide +kernel⟩
theorem ok__law_some (X : Tx K mg A) (TB : True) : FnOk P w K mg base CX0 1 (A.a 9) (A.d 9) ["_law_roads", "_law_most"] (SpF K (tab A) F__law_some) := def_ok (n := 2) (m := 4) X.f9 sc__law_some rfl rfl fun cdv A' outer s H E hr =>
  (ss_cons (ss_set (i := 2) sc__law_some.nd rfl (by first | exact Or.inl rfl | exact Or.inr rfl) (ee_lst (aa_cons (ee_tup aa_nil) aa_nil)))
    (ss_cons (ss_for PassesOwn.never rfl (ii_data (ee_var (pv 0))) (gg_name (i := 3) sc__law_some.nd rfl (by first | exact Or.inl rfl | exact Or.inr rfl)) (ss_one (ss_set (i := 2) sc__law_some.nd rfl (by first | exact Or.inl rfl | exact Or.inr rfl) (ee_cat (ee_use (pv 2)) (ee_lc (own := [("_law_some_here", 5)]) rfl sc__law_some.nd (ii_data (ee_var (pv 2))) (by exact blkOk_by (N := ["_law_roads", "_law_most", "_law_found", "_law_road", "_law_size", "_law_some_here"]) (sc := defScope st__law_some) (own := [("_law_some_here", 5)]) (by decide +kernel)) (fun _ _ _ _ _ => (gg_name (i := 5) sc__law_some.nd rfl (by first | exact Or.inl rfl | exact Or.inr rfl))) (fun _ _ _ _ _ => (ts_one (tt_lt (ee_len rfl X.n_len (aa_cons (ee_use (pv 5)) aa_nil)) (ee_use (pv 1))))) (fun _ _ _ _ _ => (ee_cat (ee_use (pv 5)) (ee_tup (aa_cons (ee_var (pv 3)) aa_nil)))))))))
    (ss_one (ss_ret (ee_lc (own := [("_law_size", 4), ("_law_some_here", 5)]) rfl sc__law_some.nd (ii_data (ee_sorted hr.units rfl X.n_sorted (aa_cons (ee_lc (own := [("_law_some_here", 5)]) rfl sc__law_some.nd (ii_data (ee_var (pv 2))) (by exact blkOk_by (N := ["_law_roads", "_law_most", "_law_found", "_law_road", "_law_size", "_law_some_here"]) (sc := defScope st__law_some) (own := [("_law_some_here", 5)]) (by decide +kernel)) (fun _ _ _ _ _ => (gg_name (i := 5) sc__law_some.nd rfl (by first | exact Or.inl rfl | exact Or.inr rfl))) (fun _ _ _ _ _ => ts_nil) (fun _ _ _ _ _ => (ee_tup (aa_cons (ee_len rfl X.n_len (aa_cons (ee_use (pv 5)) aa_nil)) (aa_cons (ee_var (pv 5)) aa_nil))))) aa_nil))) (by exact blkOk_by (N := ["_law_roads", "_law_most", "_law_found", "_law_road", "_law_size", "_law_some_here"]) (sc := defScope st__law_some) (own := [("_law_size", 4), ("_law_some_here", 5)]) (by decide +kernel)) (fun _ _ _ _ _ => (gg_tup rfl (ggs_cons (gg_name (i := 4) sc__law_some.nd rfl (by first | exact Or.inl rfl | exact Or.inr rfl)) (ggs_cons (gg_name (i := 5) sc__law_some.nd rfl (by first | exact Or.inl rfl | exact Or.inr rfl)) ggs_nil)))) (fun _ _ _ _ _ => ts_nil) (fun _ _ _ _ _ => (ee_var (pv 5))))))))
def F__law_at : Fm := runF 2 2 (sRet (eLc (gT 2 (gsCons (gN 2) (gsCons (gN 3) (gsNil)))) [2, 3] (iEnumD (aCons (e2 oIx (eUse 0) (eC (.int 1))) (aNil))) (bB (e2 (oIn false) (eUse 1) (eSl none (some 2) (eUse 3)))) (eVar 2)))
theorem sc__law_at : FnScope ["_law_plan_here", "_law_place", "_law_road", "_law_way"] ["_law_plan_here", "_law_place"] (defScope st__law_at) := ⟨rfl, rfl, rfl, by decide +kernel, rfl, by decide +kernel, by decide +kernel⟩
theorem ok__law_at (X : Tx K mg A) (TB : True) : FnOk P w K mg base CX0 1 (A.a 10) (A.d 10) ["_law_plan_here", "_law_place"] (SpF K (tab A) F__law_at) := def_ok (n := 2) (m := 2) X.f10 sc__law_at rfl rfl fun cdv A' outer s H E hr =>
  (ss_one (ss_ret (ee_lc (own := [("_law_road", 2), ("_law_way", 3)]) rfl sc__law_at.nd (ii_enum rfl X.n_enumerate (aa_cons (ee_sub_ (ee_use (pv 0)) ee_int (fun _ _ => rfl)) aa_nil)) (by exact blkOk_by (N := ["_law_plan_here", "_law_place", "_law_road", "_law_way"]) (sc := defScope st__law_at) (own := [("_law_road", 2), ("_law_way", 3)]) (by decide +kernel)) (fun _ _ _ _ _ => (gg_tup rfl (ggs_cons (gg_name (i := 2) sc__law_at.nd rfl (by first | exact Or.inl rfl | exact Or.inr rfl)) (ggs_cons (gg_name (i := 3) sc__law_at.nd rfl (by first | exact Or.inl rfl | exact Or.inr rfl)) ggs_nil)))) (fun _ _ _ _ _ => (ts_one (tt_in (ee_use (pv 1)) (ee_sl (ee_use (pv 3)) part_none part_int) rfl))) (fun _ _ _ _ _ => (ee_var (pv 2))))))
def F__law_over : Fm := runF 3 0 (sRet (e2 oSub (e2 oCat (e2 oIx (e2 oIx (e2 oIx (eUse 0) (eC (.int 1))) (eUse 1)) (eC (.int 0))) (e2 oIx (e2 oIx (e2 oIx (eUse 0) (eC (.int 1))) (eUse 1)) (eC (.int 1)))) (eUse 2)))
theorem sc__law_over : FnScope ["_law_plan_here", "_law_road", "_law_place"] ["_law_plan_here", "_law_road", "_law_place"] (defScope st__law_over) := ⟨rfl, rfl, rfl, by decide +kernel, rfl, by decide +kernel, by decide +kernel⟩
theorem ok__law_over (X : Tx K mg A) (TB : True) : FnOk P w K mg base CX0 1 (A.a 11) (A.d 11) ["_law_plan_here", "_law_road", "_law_place"] (SpF K (tab A) F__law_over) := def_ok (n := 3) (m := 0) X.f11 sc__law_over rfl rfl fun cdv A' outer s H E hr =>
  (ss_one (ss_ret (ee_sub (ee_cat (ee_sub_ (ee_sub_ (ee_sub_ (ee_use (pv 0)) ee_int (fun _ _ => rfl)) (ee_use (pv 1)) (fun _ _ => rfl)) ee_int (fun _ _ => rfl)) (ee_sub_ (ee_sub_ (ee_sub_ (ee_use (pv 0)) ee_int (fun _ _ => rfl)) (ee_use (pv 1)) (fun _ _ => rfl)) ee_int (fun _ _ => rfl))) (ee_use (pv 2)))))
def F__law_far : Fm := runF 3 6 (sCons (sSet 3 (eDisp1 (eVar 2) (eC (.int 0)))) (sCons (sFor (gN 4) (iRange1 (aCons (e2 oIx (eUse 0) (eC (.int 0))) (aNil))) (sFor (gT 2 (gsCons (gN 5) (gsCons (gN 6) (gsNil)))) (iEnumD (aCons (e2 oIx (eUse 0) (eC (.int 1))) (aNil))) (sFor (gT 2 (gsCons (gN 7) (gsCons (gN 8) (gsNil)))) (iData (eTup (aCons (eTup (aCons (e2 oIx (eUse 6) (eC (.int 0))) (aCons (e2 oIx (eUse 6) (eC (.int 1))) (aNil)))) (aCons (eTup (aCons (e2 oIx (eUse 6) (eC (.int 1))) (aCons (e2 oIx (eUse 6) (eC (.int 0))) (aNil)))) (aNil))))) (sIf (bAnd (bB (e2 (oIn true) (eUse 5) (eUse 1))) (bAnd (bB (e2 (oDIn false) (eUse 7) (eUse 3))) (bOr (bB (e2 (oDIn true) (eUse 8) (eUse 3))) (bB (e2 oLt (e2 oCat (e2 oDGet (eUse 3) (eUse 7)) (e2 oIx (eUse 6) (eC (.int 2)))) (e2 oDGet (eUse 3) (eUse 8))))))) (sDPut 3 (eVar 8) (e2 oCat (e2 oDGet (eUse 3) (eUse 7)) (e2 oIx (eUse 6) (eC (.int 2))))) (sNil))))) (sRet (eIf (bB (e2 (oDIn false) (e2 oIx (e2 oIx (eUse 0) (eC (.int 2))) (eC (.int 1))) (eUse 3))) (e2 oDGet (eUse 3) (e2 oIx (e2 oIx (eUse 0) (eC (.int 2))) (eC (.int 1)))) (eC .non)))))
theorem sc__law_far : FnScope ["_law_plan_here", "_law_barred", "_law_place", "_law_best", "_law_turn", "_law_road", "_law_way", "_law_one", "_law_other"] ["_law_plan_here", "_law_barred", "_law_place"] (defScope st__law_far) := ⟨rfl, rfl, rfl, by decide +kernel, rfl, by decide +kernel, by decide +kernel⟩
theorem ok__law_far (X : Tx K mg A) (TB : True) : FnOk P w K mg base CX0 1 (A.a 12) (A.d 12) ["_law_plan_here", "_law_barred", "_law_place"] (SpF K (tab A) F__law_far) := def_ok (n := 3) (m := 6) X.f12 sc__law_far rfl rfl fun cdv A' outer s H E hr =>
  (ss_cons (ss_set (i := 3) sc__law_far.nd rfl (by first | exact Or.inl rfl | exact Or.inr rfl) (ee_disp1 (ee_var (pv 2)) ee_int))
    (ss_cons (ss_for PassesOwn.never rfl (ii_range1 rfl X.n_range (aa_cons (ee_sub_ (ee_use (pv 0)) ee_int (fun _ _ => rfl)) aa_nil)) (gg_name (i := 4) sc__law_far.nd rfl (by first | exact Or.inl rfl | exact Or.inr rfl)) (ss_one (ss_for PassesOwn.never rfl (ii_enum rfl X.n_enumerate (aa_cons (ee_sub_ (ee_use (pv 0)) ee_int (fun _ _ => rfl)) aa_nil)) (gg_tup rfl (ggs_cons (gg_name (i := 5) sc__law_far.nd rfl (by first | exact Or.inl rfl | exact Or.inr rfl)) (ggs_cons (gg_name (i := 6) sc__law_far.nd rfl (by first | exact Or.inl rfl | exact Or.inr rfl)) ggs_nil))) (ss_one (ss_for PassesOwn.never rfl (ii_data (ee_tup (aa_cons (ee_tup (aa_cons (ee_sub_ (ee_use (pv 6)) ee_int (fun _ _ => rfl)) (aa_cons (ee_sub_ (ee_use (pv 6)) ee_int (fun _ _ => rfl)) aa_nil))) (aa_cons (ee_tup (aa_cons (ee_sub_ (ee_use (pv 6)) ee_int (fun _ _ => rfl)) (aa_cons (ee_sub_ (ee_use (pv 6)) ee_int (fun _ _ => rfl)) aa_nil))) aa_nil)))) (gg_tup rfl (ggs_cons (gg_name (i := 7) sc__law_far.nd rfl (by first | exact Or.inl rfl | exact Or.inr rfl)) (ggs_cons (gg_name (i := 8) sc__law_far.nd rfl (by first | exact Or.inl rfl | exact Or.inr rfl)) ggs_nil))) (ss_one (ss_if (PW.pt (tw_and (tt_notIn (ee_use (pv 5)) (ee_use (pv 1)) rfl) (tw_and (tt_din hr.units (ee_use (pv 7)) (ee_use (pv 3)) rfl) (tw_and1 (PW.pt (tw_or (tt_dnotIn hr.units (ee_use (pv 8)) (ee_use (pv 3)) rfl) (tw_or1 (tt_lt (ee_cat (ee_dget hr.units (ee_use (pv 3)) (ee_use (pv 7))) (ee_sub_ (ee_use (pv 6)) ee_int (fun _ _ => rfl))) (ee_dget hr.units (ee_use (pv 3)) (ee_use (pv 8))))))))))) (ss_one (ss_dput (i := 3) hr.units (pv 3) (ee_var (pv 8)) (ee_cat (ee_dget hr.units (ee_use (pv 3)) (ee_use (pv 7))) (ee_sub_ (ee_use (pv 6)) ee_int (fun _ _ => rfl))))) ss_nil)))))))
    (ss_one (ss_ret (ee_if (tt_din hr.units (ee_sub_ (ee_sub_ (ee_use (pv 0)) ee_int (fun _ _ => rfl)) ee_int (fun _ _ => rfl)) (ee_use (pv 3)) rfl) (ee_dget hr.units (ee_use (pv 3)) (ee_sub_ (ee_sub_ (ee_use (pv 0)) ee_int (fun _ _ => rfl)) ee_int (fun _ _ => rfl))) ee_non)))))
def F__law_few : Fm := runF 3 2 (sCons (sSet 3 (eTup (aCons (e2 oIx (eUse 0) (eC (.int 0))) (aCons (eCB (c1 oTupOf) (aCons (eLc (gN 4) [4] (iData (e2 oIx (eUse 0) (eC (.int 1)))) (bYes) (eTup (aCons (e2 oIx (eUse 4) (eC (.int 0))) (aCons (e2 oIx (eUse 4) (eC (.int 1))) (aCons (eC (.int 1)) (aNil)))))) (aNil))) (aCons (e2 oIx (eUse 0) (eC (.int 2))) (aCons (e2 oIx (eUse 0) (eC (.int 3))) (aNil))))))) (sRet (eCall F__law_far (aCons (eVar 3) (aCons (eVar 1) (aCons (eVar 2) (aNil)))))))
theorem sc__law_few : FnScope ["_law_plan_here", "_law_barred", "_law_place", "_law_single", "_law_way"] ["_law_plan_here", "_law_barred", "_law_place"] (defScope st__law_few) := ⟨rfl, rfl, rfl, by decide +kernel, rfl, by decide +kernel, by decide +kernel⟩
theorem ok__law_few (X : Tx K mg A) (TB : True) : FnOk P w K mg base CX0 2 (A.a 13) (A.d 13) ["_law_plan_here", "_law_barred", "_law_place"] (SpF K (tab A) F__law_few) := def_ok (n := 3) (m := 2) X.f13 sc__law_few rfl rfl fun cdv A' outer s H E hr =>
  (ss_cons (ss_set (i := 3) sc__law_few.nd rfl (by first | exact Or.inl rfl | exact Or.inr rfl) (ee_tup (aa_cons (ee_sub_ (ee_use (pv 0)) ee_int (fun _ _ => rfl)) (aa_cons (ee_tuple rfl X.n_tuple (aa_cons (ee_lc (own := [("_law_way", 4)]) rfl sc__law_few.nd (ii_data (ee_sub_ (ee_use (pv 0)) ee_int (fun _ _ => rfl))) (by exact blkOk_by (N := ["_law_plan_here", "_law_barred", "_law_place", "_law_single", "_law_way"]) (sc := defScope st__law_few) (own := [("_law_way", 4)]) (by decide +kernel)) (fun _ _ _ _ _ => (gg_name (i := 4) sc__law_few.nd rfl (by first | exact Or.inl rfl | exact Or.inr rfl))) (fun _ _ _ _ _ => ts_nil) (fun _ _ _ _ _ => (ee_tup (aa_cons (ee_sub_ (ee_use (pv 4)) ee_int (fun _ _ => rfl)) (aa_cons (ee_sub_ (ee_use (pv 4)) ee_int (fun _ _ => rfl)) (aa_cons ee_int aa_nil)))))) aa_nil)) (aa_cons (ee_sub_ (ee_use (pv 0)) ee_int (fun _ _ => rfl)) (aa_cons (ee_sub_ (ee_use (pv 0)) ee_int (fun _ _ => rfl)) aa_nil))))))
    (ss_one (ss_ret (ee_call (ok__law_far X TB) (hr.mono (by decide : 1 ≤ 1)) rfl X.g12 X.f12.kp X.b12 pass0 (aa_cons (ee_var (pv 3)) (aa_cons (ee_var (pv 1)) (aa_cons (ee_var (pv 2)) aa_nil)))))))
def F__law_rest : Fm := runF 5 6 (sCons (sAsg (gT 2 (gsCons (gN 8) (gsCons (gN 9) (gsNil)))) (eVar 4)) (sCons (sSet 5 (eCall F__law_over (aCons (eVar 0) (aCons (eVar 9) (aCons (eVar 8) (aNil)))))) (sCons (sIf (bB (e2 oEq (eUse 3) (eC (.str "few")))) (sCons (sSet 7 (eCall F__law_few (aCons (eVar 0) (aCons (eVar 2) (aCons (eVar 5) (aNil)))))) (sRet (eIf (bB (e2 oIsN (eUse 7) (eC .non))) (eC .non) (e2 oCat (eUse 7) (eC (.int 1)))))) (sNil)) (sCons (sSet 6 (eVar 2)) (sCons (sIf (bB (e2 oEq (eUse 3) (eC (.str "known")))) (sSet 6 (eLc (gN 10) [10] (iRange1 (aCons (eCB (c1 oLen) (aCons (e2 oIx (eUse 0) (eC (.int 1))) (aNil))) (aNil))) (bB (e2 (oIn true) (eUse 10) (eUse 1))) (eVar 10))) (sNil)) (sCons (sSet 7 (eCall F__law_far (aCons (eVar 0) (aCons (eVar 6) (aCons (eVar 5) (aNil)))))) (sRet (eIf (bB (e2 oIsN (eUse 7) (eC .non))) (eC .non) (e2 oCat (eUse 7) (e2 oIx (e2 oIx (e2 oIx (eUse 0) (eC (.int 1))) (eUse 9)) (eC (.int 2))))))))))))
theorem sc__law_rest : FnScope ["_law_plan_here", "_law_free", "_law_shut", "_law_rule", "_law_spot", "_law_end", "_law_barred", "_law_rest_here", "_law_place", "_law_road", "_law_one"] ["_law_plan_here", "_law_free", "_law_shut", "_law_rule", "_law_spot"] (defScope st__law_rest) := ⟨rfl, rfl, rfl, by decide +kernel, rfl, by decide +kernel, by decide +kernel⟩
theorem ok__law_rest (X : Tx K mg A) (TB : True) : FnOk P w K mg base CX0 3 (A.a 14) (A.d 14) ["_law_plan_here", "_law_free", "_law_shut", "_law_rule", "_law_spot"] (SpF K (tab A) F__law_rest) := def_ok (n := 5) (m := 6) X.f14 sc__law_rest rfl rfl fun cdv A' outer s H E hr =>
  (ss_cons (ss_asg (ee_var (pv 4)) (gg_tup rfl (ggs_cons (gg_name (i := 8) sc__law_rest.nd rfl (by first | exact Or.inl rfl | exact Or.inr rfl)) (ggs_cons (gg_name (i := 9) sc__law_rest.nd rfl (by first | exact Or.inl rfl | exact Or.inr rfl)) ggs_nil))))
    (ss_cons (ss_set (i := 5) sc__law_rest.nd rfl (by first | exact Or.inl rfl | exact Or.inr rfl) (ee_call (ok__law_over X TB) (hr.mono (by decide : 1 ≤ 2)) rfl X.g11 X.f11.kp X.b11 pass0 (aa_cons (ee_var (pv 0)) (aa_cons (ee_var (pv 9)) (aa_cons (ee_var (pv 8)) aa_nil)))))
    (ss_cons (ss_if (tt_eq hr.units (ee_use (pv 3)) ee_str) (ss_cons (ss_set (i := 7) sc__law_rest.nd rfl (by first | exact Or.inl rfl | exact Or.inr rfl) (ee_call (ok__law_few X TB) (hr.mono (by decide : 2 ≤ 2)) rfl X.g13 X.f13.kp X.b13 pass0 (aa_cons (ee_var (pv 0)) (aa_cons (ee_var (pv 2)) (aa_cons (ee_var (pv 5)) aa_nil)))))
    (ss_one (ss_ret (ee_if (tt_isN (ee_use (pv 7)) ee_non) ee_non (ee_cat (ee_use (pv 7)) ee_int))))) ss_nil)
    (ss_cons (ss_set (i := 6) sc__law_rest.nd rfl (by first | exact Or.inl rfl | exact Or.inr rfl) (ee_var (pv 2)))
    (ss_cons (ss_if (tt_eq hr.units (ee_use (pv 3)) ee_str) (ss_one (ss_setLc (i := 6) (own := [("_law_one", 10)]) rfl sc__law_rest.nd rfl rfl rfl (ii_range1 rfl X.n_range (aa_cons (ee_len rfl X.n_len (aa_cons (ee_sub_ (ee_use (pv 0)) ee_int (fun _ _ => rfl)) aa_nil)) aa_nil)) (by exact blkOk_by (N := ["_law_plan_here", "_law_free", "_law_shut", "_law_rule", "_law_spot", "_law_end", "_law_barred", "_law_rest_here", "_law_place", "_law_road", "_law_one"]) (sc := defScope st__law_rest) (own := [("_law_one", 10)]) (by decide +kernel)) (fun _ _ _ _ _ => (gg_name (i := 10) sc__law_rest.nd rfl (by first | exact Or.inl rfl | exact Or.inr rfl))) (fun _ _ _ _ _ => (ts_one (tt_notIn (ee_use (pv 10)) (ee_use (pv 1)) rfl))) (fun _ _ _ _ _ => (ee_var (pv 10))))) ss_nil)
    (ss_cons (ss_set (i := 7) sc__law_rest.nd rfl (by first | exact Or.inl rfl | exact Or.inr rfl) (ee_call (ok__law_far X TB) (hr.mono (by decide : 1 ≤ 2)) rfl X.g12 X.f12.kp X.b12 pass0 (aa_cons (ee_var (pv 0)) (aa_cons (ee_var (pv 6)) (aa_cons (ee_var (pv 5)) aa_nil)))))
    (ss_one (ss_ret (ee_if (tt_isN (ee_use (pv 7)) ee_non) ee_non (ee_cat (ee_use (pv 7)) (ee_sub_ (ee_sub_ (ee_sub_ (ee_use (pv 0)) ee_int (fun _ _ => rfl)) (ee_use (pv 9)) (fun _ _ => rfl)) ee_int (fun _ _ => rfl))))))))))))
def F__law_choice_0 : Fm := runF 5 3 (sCons (sSet 5 (eLst (aNil))) (sCons (sFor (gN 6) (iData (eCall F__law_at (aCons (eVar 0) (aCons (eVar 4) (aNil))))) (sCons (sSet 7 (eIf (bB (e2 (oIn false) (eUse 6) (eUse 1))) (eCall F__law_rest (aCons (eVar 0) (aCons (eVar 1) (aCons (eVar 2) (aCons (eVar 3) (aCons (eTup (aCons (eVar 4) (aCons (eVar 6) (aNil)))) (aNil))))))) (eC .non))) (sSet 5 (e2 oCat (eUse 5) (eIf (bB (e2 oNotN (eUse 7) (eC .non))) (eLst (aCons (eTup (aCons (eVar 7) (aCons (eVar 6) (aNil)))) (aNil))) (eLst (aNil))))))) (sCons (sIf (bAnd (bB (e2 oEq (eUse 5) (eLst (aNil)))) (bB (e2 oEq (eUse 3) (eC (.str "known"))))) (sRet (eBad)) (sNil)) (sRet (eIf (bB (e2 oNe (eUse 5) (eLst (aNil)))) (e2 oIx (eCB (c1 oMinAny) (aCons (eUse 5) (aNil))) (eC (.int 1))) (eC .non))))))
def F__law_choice : Fm := runF 5 3 (sCons (sSet 5 (eLst (aNil))) (sCons (sFor (gN 6) (iData (eCall F__law_at (aCons (eVar 0) (aCons (eVar 4) (aNil))))) (sCons (sSet 7 (eIf (bB (e2 (oIn false) (eUse 6) (eUse 1))) (eCall F__law_rest (aCons (eVar 0) (aCons (eVar 1) (aCons (eVar 2) (aCons (eVar 3) (aCons (eTup (aCons (eVar 4) (aCons (eVar 6) (aNil)))) (aNil))))))) (eC .non))) (sSet 5 (e2 oCat (eUse 5) (eIf (bB (e2 oNotN (eUse 7) (eC .non))) (eLst (aCons (eTup (aCons (eVar 7) (aCons (eVar 6) (aNil)))) (aNil))) (eLst (aNil))))))) (sCons (sIf (bAnd (bB (e2 oEq (eUse 5) (eLst (aNil)))) (bB (e2 oEq (eUse 3) (eC (.str "known"))))) (sRet (eCall F__law_choice_0 (aCons (eVar 0) (aCons (eVar 1) (aCons (eVar 2) (aCons (eC (.str "near")) (aCons (eVar 4) (aNil)))))))) (sNil)) (sRet (eIf (bB (e2 oNe (eUse 5) (eLst (aNil)))) (e2 oIx (eCB (c1 oMinAny) (aCons (eUse 5) (aNil))) (eC (.int 1))) (eC .non))))))
theorem sc__law_choice : FnScope ["_law_plan_here", "_law_free", "_law_shut", "_law_rule", "_law_place", "_law_rows", "_law_road", "_law_rest_here"] ["_law_plan_here", "_law_free", "_law_shut", "_law_rule", "_law_place"] (defScope st__law_choice) := ⟨rfl, rfl, rfl, by decide +kernel, rfl, by decide +kernel, by decide +kernel⟩
theorem ok__law_choice_0 (X : Tx K mg A) (TB : True) : FnOk P w K mg base CX0 4 (A.a 15) (A.d 15) ["_law_plan_here", "_law_free", "_law_shut", "_law_rule", "_law_place"] (SpF K (tab A) F__law_choice_0) := def_ok (n := 5) (m := 3) X.f15 sc__law_choice rfl rfl fun cdv A' outer s H E hr =>
  (ss_cons (ss_set (i := 5) sc__law_choice.nd rfl (by first | exact Or.inl rfl | exact Or.inr rfl) (ee_lst aa_nil))
    (ss_cons (ss_for PassesOwn.never rfl (ii_data (ee_call (ok__law_at X TB) (hr.mono (by decide : 1 ≤ 3)) rfl X.g10 X.f10.kp X.b10 pass0 (aa_cons (ee_var (pv 0)) (aa_cons (ee_var (pv 4)) aa_nil)))) (gg_name (i := 6) sc__law_choice.nd rfl (by first | exact Or.inl rfl | exact Or.inr rfl)) (ss_cons (ss_set (i := 7) sc__law_choice.nd rfl (by first | exact Or.inl rfl | exact Or.inr rfl) (ee_if (tt_in (ee_use (pv 6)) (ee_use (pv 1)) rfl) (ee_call (ok__law_rest X TB) (hr.mono (by decide : 3 ≤ 3)) rfl X.g14 X.f14.kp X.b14 pass0 (aa_cons (ee_var (pv 0)) (aa_cons (ee_var (pv 1)) (aa_cons (ee_var (pv 2)) (aa_cons (ee_var (pv 3)) (aa_cons (ee_tup (aa_cons (ee_var (pv 4)) (aa_cons (ee_var (pv 6)) aa_nil))) aa_nil)))))) ee_non))
    (ss_one (ss_set (i := 5) sc__law_choice.nd rfl (by first | exact Or.inl rfl | exact Or.inr rfl) (ee_cat (ee_use (pv 5)) (ee_if (tt_notN (ee_use (pv 7)) ee_non) (ee_lst (aa_cons (ee_tup (aa_cons (ee_var (pv 7)) (aa_cons (ee_var (pv 6)) aa_nil))) aa_nil)) (ee_lst aa_nil)))))))
    (ss_cons (ss_if (PW.pt (tw_and (tt_eq hr.units (ee_use (pv 5)) (ee_lst aa_nil)) (tw_and1 (tt_eq hr.units (ee_use (pv 3)) ee_str)))) (ss_one (ss_ret ee_bad)) ss_nil)
    (ss_one (ss_ret (ee_if (tt_ne hr.units (ee_use (pv 5)) (ee_lst aa_nil)) (ee_sub_ (ee_minL rfl hr.units rfl X.n_min (aa_cons (ee_use (pv 5)) aa_nil)) ee_int (fun _ _ => rfl)) ee_non))))))
theorem ok__law_choice (X : Tx K mg A) (TB : True) : FnOk P w K mg base CX0 5 (A.a 15) (A.d 15) ["_law_plan_here", "_law_free", "_law_shut", "_law_rule", "_law_place"] (SpF K (tab A) F__law_choice) := def_ok (n := 5) (m := 3) X.f15 sc__law_choice rfl rfl fun cdv A' outer s H E hr =>
  (ss_cons (ss_set (i := 5) sc__law_choice.nd rfl (by first | exact Or.inl rfl | exact Or.inr rfl) (ee_lst aa_nil))
    (ss_cons (ss_for PassesOwn.never rfl (ii_data (ee_call (ok__law_at X TB) (hr.mono (by decide : 1 ≤ 4)) rfl X.g10 X.f10.kp X.b10 pass0 (aa_cons (ee_var (pv 0)) (aa_cons (ee_var (pv 4)) aa_nil)))) (gg_name (i := 6) sc__law_choice.nd rfl (by first | exact Or.inl rfl | exact Or.inr rfl)) (ss_cons (ss_set (i := 7) sc__law_choice.nd rfl (by first | exact Or.inl rfl | exact Or.inr rfl) (ee_if (tt_in (ee_use (pv 6)) (ee_use (pv 1)) rfl) (ee_call (ok__law_rest X TB) (hr.mono (by decide : 3 ≤ 4)) rfl X.g14 X.f14.kp X.b14 pass0 (aa_cons (ee_var (pv 0)) (aa_cons (ee_var (pv 1)) (aa_cons (ee_var (pv 2)) (aa_cons (ee_var (pv 3)) (aa_cons (ee_tup (aa_cons (ee_var (pv 4)) (aa_cons (ee_var (pv 6)) aa_nil))) aa_nil)))))) ee_non))
    (ss_one (ss_set (i := 5) sc__law_choice.nd rfl (by first | exact Or.inl rfl | exact Or.inr rfl) (ee_cat (ee_use (pv 5)) (ee_if (tt_notN (ee_use (pv 7)) ee_non) (ee_lst (aa_cons (ee_tup (aa_cons (ee_var (pv 7)) (aa_cons (ee_var (pv 6)) aa_nil))) aa_nil)) (ee_lst aa_nil)))))))
    (ss_cons (ss_if (PW.pt (tw_and (tt_eq hr.units (ee_use (pv 5)) (ee_lst aa_nil)) (tw_and1 (tt_eq hr.units (ee_use (pv 3)) ee_str)))) (ss_one (ss_ret (ee_call (ok__law_choice_0 X TB) (hr.mono (by decide : 4 ≤ 4)) rfl X.g15 X.f15.kp X.b15 pass0 (aa_cons (ee_var (pv 0)) (aa_cons (ee_var (pv 1)) (aa_cons (ee_var (pv 2)) (aa_cons ee_str (aa_cons (ee_var (pv 4)) aa_nil)))))))) ss_nil)
    (ss_one (ss_ret (ee_if (tt_ne hr.units (ee_use (pv 5)) (ee_lst aa_nil)) (ee_sub_ (ee_minL rfl hr.units rfl X.n_min (aa_cons (ee_use (pv 5)) aa_nil)) ee_int (fun _ _ => rfl)) ee_non))))))
def F__law_walk : Fm := runF 3 5 (sCons (sParL [3, 4, 5, 6] (aoCons (e2 oIx (e2 oIx (eUse 0) (eC (.int 2))) (eC (.int 0))) (aoCons (eLst (aNil)) (aoCons (eLst (aNil)) (aoCons (eLst (aNil)) (aoNil)))))) (sWhile (bB (eC (.bl true))) (sCons (sFor (gN 7) (iData (eCall F__law_at (aCons (eVar 0) (aCons (eVar 3) (aNil))))) (sIf (bAnd (bB (e2 (oIn false) (eUse 7) (eUse 1))) (bB (e2 (oIn true) (eUse 7) (eUse 5)))) (sApp 5 (eVar 7)) (sIf (bAnd (bB (e2 (oIn true) (eUse 7) (eUse 1))) (bB (e2 (oIn true) (eUse 7) (eUse 4)))) (sApp 4 (eVar 7)) (sNil)))) (sCons (sSet 7 (eCallV F__law_choice (aCons (eVar 0) (aCons (eUse 4) (aCons (eUse 5) (aCons (eVar 2) (aCons (eVar 3) (aNil)))))))) (sCons (sIf (bOr (bB (e2 oIsN (eUse 7) (eC .non))) (bB (e2 oEq (eUse 3) (e2 oIx (e2 oIx (eUse 0) (eC (.int 2))) (eC (.int 1)))))) (sRet (eTup (aCons (eVar 6) (aCons (eVar 3) (aNil))))) (sNil)) (sCons (sApp 6 (eVar 7)) (sSet 3 (eCall F__law_over (aCons (eVar 0) (aCons (eVar 7) (aCons (eVar 3) (aNil)))))))))) 4000))
theorem sc__law_walk : FnScope ["_law_plan_here", "_law_world", "_law_rule", "_law_place", "_law_free", "_law_shut", "_law_found", "_law_road"] ["_law_plan_here", "_law_world", "_law_rule"] (defScope st__law_walk) := ⟨rfl, rfl, rfl, by decide +kernel, rfl, by decide +kernel, by decide +kernel⟩
theorem ok__law_walk (X : Tx K mg A) (TB : True) : FnOk P w K mg base CX0 6 (A.a 16) (A.d 16) ["_law_plan_here", "_law_world", "_law_rule"] (SpF K (tab A) F__law_walk) := def_ok (n := 3) (m := 5) X.f16 sc__law_walk rfl rfl fun cdv A' outer s H E hr =>
  (ss_cons (ss_par4 (i := 3) (j := 4) (l := 5) (m := 6) rfl sc__law_walk.nd rfl rfl rfl rfl (by first | exact Or.inl rfl | exact Or.inr rfl) (by first | exact Or.inl rfl | exact Or.inr rfl) (by first | exact Or.inl rfl | exact Or.inr rfl) (by first | exact Or.inl rfl | exact Or.inr rfl) (ao_cons (ee_sub_ (ee_sub_ (ee_use (pv 0)) ee_int (fun _ _ => rfl)) ee_int (fun _ _ => rfl)) (ao_cons (ee_lst aa_nil) (ao_cons (ee_lst aa_nil) (ao_cons (ee_lst aa_nil) ao_nil)))))
    (ss_one (ss_while 4000 PassesOwn.never (tt_B ee_bl) (ss_cons (ss_for PassesOwn.never rfl (ii_data (ee_call (ok__law_at X TB) (hr.mono (by decide : 1 ≤ 5)) rfl X.g10 X.f10.kp X.b10 pass0 (aa_cons (ee_var (pv 0)) (aa_cons (ee_var (pv 3)) aa_nil)))) (gg_name (i := 7) sc__law_walk.nd rfl (by first | exact Or.inl rfl | exact Or.inr rfl)) (ss_one (ss_if (PW.pt (tw_and (tt_in (ee_use (pv 7)) (ee_use (pv 1)) rfl) (tw_and1 (tt_notIn (ee_use (pv 7)) (ee_use (pv 5)) rfl)))) (ss_one (ss_app (ps_expr (pe_bm PySem.F.plainAttrs_list PySem.F.slot_list_append PySem.F.type_list_append mt_append (pv 5) (pa_cons (ee_var (pv 7)) pa_nil))))) (ss_one (ss_if (PW.pt (tw_and (tt_notIn (ee_use (pv 7)) (ee_use (pv 1)) rfl) (tw_and1 (tt_notIn (ee_use (pv 7)) (ee_use (pv 4)) rfl)))) (ss_one (ss_app (ps_expr (pe_bm PySem.F.plainAttrs_list PySem.F.slot_list_append PySem.F.type_list_append mt_append (pv 4) (pa_cons (ee_var (pv 7)) pa_nil))))) ss_nil)))))
    (ss_cons (ss_set (i := 7) sc__law_walk.nd rfl (by first | exact Or.inl rfl | exact Or.inr rfl) (ee_callV (ok__law_choice X TB) (hr.mono (by decide : 5 ≤ 5)) rfl X.g15 X.f15.kp X.b15 pass0 (aa_cons (ee_var (pv 0)) (aa_cons (ee_use (pv 4)) (aa_cons (ee_use (pv 5)) (aa_cons (ee_var (pv 2)) (aa_cons (ee_var (pv 3)) aa_nil)))))))
    (ss_cons (ss_if (PW.pt (tw_or (tt_isN (ee_use (pv 7)) ee_non) (tw_or1 (tt_eq hr.units (ee_use (pv 3)) (ee_sub_ (ee_sub_ (ee_use (pv 0)) ee_int (fun _ _ => rfl)) ee_int (fun _ _ => rfl)))))) (ss_one (ss_ret (ee_tup (aa_cons (ee_var (pv 6)) (aa_cons (ee_var (pv 3)) aa_nil))))) ss_nil)
    (ss_cons (ss_app (ps_expr (pe_bm PySem.F.plainAttrs_list PySem.F.slot_list_append PySem.F.type_list_append mt_append (pv 6) (pa_cons (ee_var (pv 7)) pa_nil))))
    (ss_one (ss_set (i := 3) sc__law_walk.nd rfl (by first | exact Or.inl rfl | exact Or.inr rfl) (ee_call (ok__law_over X TB) (hr.mono (by decide : 1 ≤ 5)) rfl X.g11 X.f11.kp X.b11 pass0 (aa_cons (ee_var (pv 0)) (aa_cons (ee_var (pv 7)) (aa_cons (ee_var (pv 3)) aa_nil)))))))))))))
def F_check_map : Fm := runF 1 0 (sIf (bNot (bB (e1 (oIsi isi_Map) (eUse 0)))) (sBad) (sNil))
theorem sc_check_map : FnScope ["chart"] ["chart"] (defScope st_check_map) := ⟨rfl, rfl, rfl, by decide +kernel, rfl, by decide +kernel, by decide +kernel⟩
theorem ok_check_map (X : Tx K mg A) (TB : True) : FnOk P w K mg base CX0 1 (A.a 17) (A.d 17) ["chart"] (SpF K (tab A) F_check_map) := def_ok (n := 1) (m := 0) X.f17 sc_check_map rfl rfl fun cdv A' outer s H E hr =>
  (ss_one (ss_if (tt_not (tt_B (ee_isi (.own _) X.i_Map rfl X.n_isinstance (ee_use (pv 0)) (pe_glob rfl X.gc0 rfl)))) (ss_one ss_bad) ss_nil))
def F_Map___len__ : Fm := runF 1 0 (sRet (eCB (c1 oLen) (aCons (eFld [(0, 1)] (eUse 0)) (aNil))))
theorem sc_Map___len__ : FnScope ["self"] ["self"] (defScope st_Map___len__) := ⟨rfl, rfl, rfl, by decide +kernel, rfl, by decide +kernel, by decide +kernel⟩
theorem ok_Map___len__ (X : Tx K mg A) (TB : True) : FnOk P w K mg base CX0 1 (A.a 18) (A.d 18) ["self"] (SpF K (tab A) F_Map___len__) := def_ok (n := 1) (m := 0) X.f18 sc_Map___len__ rfl rfl fun cdv A' outer s H E hr =>
  (ss_one (ss_ret (ee_len rfl X.n_len (aa_cons (ee_fld X.t__roads (ee_use (pv 0))) aa_nil))))
def F_is_road : Fm := runF 2 0 (sRet (eCall F_is_within (aCons (eVar 1) (aCons (eC (.int 0)) (aCons (e2 oSub (eLenO 0 F_Map___len__ (eVar 0)) (eC (.int 1))) (aNil))))))
theorem sc_is_road : FnScope ["chart", "road"] ["chart", "road"] (defScope st_is_road) := ⟨rfl, rfl, rfl, by decide +kernel, rfl, by decide +kernel, by decide +kernel⟩
theorem ok_is_road (X : Tx K mg A) (TB : True) : FnOk P w K mg base CX0 3 (A.a 19) (A.d 19) ["chart", "road"] (SpF K (tab A) F_is_road) := def_ok (n := 2) (m := 0) X.f19 sc_is_road rfl rfl fun cdv A' outer s H E hr =>
  (ss_one (ss_ret (ee_call (ok_is_within X TB) (hr.mono (by decide : 2 ≤ 2)) rfl X.g3 X.f3.kp X.b3 pass0 (aa_cons (ee_var (pv 1)) (aa_cons ee_int (aa_cons (ee_sub (ee_lenO rfl X.ln0 X.lf0 (ok_Map___len__ X TB) (hr.mono (by decide : 2 ≤ 2)) X.b18 pass0 rfl X.n_len (ee_var (pv 0))) ee_int) aa_nil))))))
def F_are_roads : Fm := runF 2 1 (sRet (eAnd (e1 (oIsi isi_tuple) (eUse 1)) (eAnd (eCB (c1 oAll) (aCons (eLc (gN 2) [2] (iData (eVar 1)) (bYes) (eCall F_is_road (aCons (eVar 0) (aCons (eVar 2) (aNil))))) (aNil))) (eCall F_ascends (aCons (eVar 1) (aNil))))))
theorem sc_are_roads : FnScope ["chart", "some", "road"] ["chart", "some"] (defScope st_are_roads) := ⟨rfl, rfl, rfl, by decide +kernel, rfl, by decide +kernel, by decide +kernel⟩
theorem ok_are_roads (X : Tx K mg A) (TB : True) : FnOk P w K mg base CX0 4 (A.a 20) (A.d 20) ["chart", "some"] (SpF K (tab A) F_are_roads) := def_ok (n := 2) (m := 1) X.f20 sc_are_roads rfl rfl fun cdv A' outer s H E hr =>
  (ss_one (ss_ret (ee_and (ee_isi (.ty "tuple") X.i_tuple rfl X.n_isinstance (ee_use (pv 1)) (pe_bltn rfl X.n_tuple (by decide +kernel) rfl)) (ee_and (ee_all rfl rfl X.n_all (aa_cons (ee_lc (own := [("road", 2)]) rfl sc_are_roads.nd (ii_data (ee_var (pv 1))) (by exact blkOk_by (N := ["chart", "some", "road"]) (sc := defScope st_are_roads) (own := [("road", 2)]) (by decide +kernel)) (fun _ _ _ _ _ => (gg_name (i := 2) sc_are_roads.nd rfl (by first | exact Or.inl rfl | exact Or.inr rfl))) (fun _ _ _ _ _ => ts_nil) (fun _ _ _ _ _ => (ee_call (ok_is_road X TB) (hr.mono (by decide : 3 ≤ 3)) rfl X.g19 X.f19.kp X.b19 pass0 (aa_cons (ee_var (pv 0)) (aa_cons (ee_var (pv 2)) aa_nil))))) aa_nil)) (ee_one (ee_call (ok_ascends X TB) (hr.mono (by decide : 1 ≤ 3)) rfl X.g5 X.f5.kp X.b5 pass0 (aa_cons (ee_var (pv 1)) aa_nil)))))))
def F_Map_most : Fm := runF 1 0 (sRet (eFld [(0, 3)] (eUse 0)))
theorem sc_Map_most : FnScope ["self"] ["self"] (defScope st_Map_most) := ⟨rfl, rfl, rfl, by decide +kernel, rfl, by decide +kernel, by decide +kernel⟩
theorem ok_Map_most (X : Tx K mg A) (TB : True) : FnOk P w K mg base CX0 1 (A.a 21) (A.d 21) ["self"] (SpF K (tab A) F_Map_most) := def_ok (n := 1) (m := 0) X.f21 sc_Map_most rfl rfl fun cdv A' outer s H E hr =>
  (ss_one (ss_ret (ee_fld X.t__most (ee_use (pv 0)))))
def F_is_world : Fm := runF 2 0 (sRet (eAnd (eCall F_are_roads (aCons (eVar 0) (aCons (eVar 1) (aNil)))) (e2 oLe (eCB (c1 oLen) (aCons (eUse 1) (aNil))) (oSelf 0 F_Map_most (eVar 0)))))
theorem sc_is_world : FnScope ["chart", "world"] ["chart", "world"] (defScope st_is_world) := ⟨rfl, rfl, rfl, by decide +kernel, rfl, by decide +kernel, by decide +kernel⟩
theorem ok_is_world (X : Tx K mg A) (TB : True) : FnOk P w K mg base CX0 5 (A.a 22) (A.d 22) ["chart", "world"] (SpF K (tab A) F_is_world) := def_ok (n := 2) (m := 0) X.f22 sc_is_world rfl rfl fun cdv A' outer s H E hr =>
  (ss_one (ss_ret (ee_and (ee_call (ok_are_roads X TB) (hr.mono (by decide : 4 ≤ 4)) rfl X.g20 X.f20.kp X.b20 pass0 (aa_cons (ee_var (pv 0)) (aa_cons (ee_var (pv 1)) aa_nil))) (ee_one (ee_le (ee_len rfl X.n_len (aa_cons (ee_use (pv 1)) aa_nil)) (ee_prop rfl X.cl0 X.p21 (ok_Map_most X TB) (hr.mono (by decide : 2 ≤ 4)) X.b21 pass0 (ee_var (pv 0))))))))
def F_check_world : Fm := runF 2 0 (sIf (bNot (bB (eCall F_is_world (aCons (eVar 0) (aCons (eVar 1) (aNil)))))) (sBad) (sNil))
theorem sc_check_world : FnScope ["chart", "world"] ["chart", "world"] (defScope st_check_world) := ⟨rfl, rfl, rfl, by decide +kernel, rfl, by decide +kernel, by decide +kernel⟩
theorem ok_check_world (X : Tx K mg A) (TB : True) : FnOk P w K mg base CX0 6 (A.a 23) (A.d 23) ["chart", "world"] (SpF K (tab A) F_check_world) := def_ok (n := 2) (m := 0) X.f23 sc_check_world rfl rfl fun cdv A' outer s H E hr =>
  (ss_one (ss_if (tt_not (tt_B (ee_call (ok_is_world X TB) (hr.mono (by decide : 5 ≤ 5)) rfl X.g22 X.f22.kp X.b22 pass0 (aa_cons (ee_var (pv 0)) (aa_cons (ee_var (pv 1)) aa_nil))))) (ss_one ss_bad) ss_nil))
def F__check_rule : Fm := runF 1 0 (sIf (bOr (bNot (bB (e1 (oIsi isi_str) (eUse 0)))) (bB (e2 (oIn true) (eUse 0) (eC (.tup ((["near", "few", "known"] : List Str).map D.str)))))) (sBad) (sNil))
theorem sc__check_rule : FnScope ["rule"] ["rule"] (defScope st__check_rule) := ⟨rfl, rfl, rfl, by decide +kernel, rfl, by decide +kernel, by decide +kernel⟩
theorem ok__check_rule (X : Tx K mg A) (TB : True) : FnOk P w K mg base CX0 1 (A.a 24) (A.d 24) ["rule"] (SpF K (tab A) F__check_rule) := def_ok (n := 1) (m := 0) X.f24 sc__check_rule rfl rfl fun cdv A' outer s H E hr =>
  (ss_one (ss_if (PW.pt (tw_or (tt_not (tt_B (ee_isi (.ty "str") X.i_str rfl X.n_isinstance (ee_use (pv 0)) (pe_bltn rfl X.n_str (by decide +kernel) rfl)))) (tw_or1 (tt_notIn (ee_use (pv 0)) (ee_gtup rfl X.tc_RULES) rfl)))) (ss_one ss_bad) ss_nil))
def F__check_walk : Fm := runF 3 0 (sCons (sDrop (eCall F_check_map (aCons (eVar 0) (aNil)))) (sCons (sDrop (eCall F_check_world (aCons (eVar 0) (aCons (eVar 1) (aNil))))) (sDrop (eCall F__check_rule (aCons (eVar 2) (aNil))))))
theorem sc__check_walk : FnScope ["chart", "world", "rule"] ["chart", "world", "rule"] (defScope st__check_walk) := ⟨rfl, rfl, rfl, by decide +kernel, rfl, by decide +kernel, by decide +kernel⟩
theorem ok__check_walk (X : Tx K mg A) (TB : True) : FnOk P w K mg base CX0 7 (A.a 25) (A.d 25) ["chart", "world", "rule"] (SpF K (tab A) F__check_walk) := def_ok (n := 3) (m := 0) X.f25 sc__check_walk rfl rfl fun cdv A' outer s H E hr =>
  (ss_cons (ss_expr (ee_call (ok_check_map X TB) (hr.mono (by decide : 1 ≤ 6)) rfl X.g17 X.f17.kp X.b17 pass0 (aa_cons (ee_var (pv 0)) aa_nil)))
    (ss_cons (ss_expr (ee_call (ok_check_world X TB) (hr.mono (by decide : 6 ≤ 6)) rfl X.g23 X.f23.kp X.b23 pass0 (aa_cons (ee_var (pv 0)) (aa_cons (ee_var (pv 1)) aa_nil))))
    (ss_one (ss_expr (ee_call (ok__check_rule X TB) (hr.mono (by decide : 1 ≤ 6)) rfl X.g24 X.f24.kp X.b24 pass0 (aa_cons (ee_var (pv 2)) aa_nil))))))
def F_Map_roads : Fm := runF 1 0 (sRet (eFld [(0, 1)] (eUse 0)))
theorem sc_Map_roads : FnScope ["self"] ["self"] (defScope st_Map_roads) := ⟨rfl, rfl, rfl, by decide +kernel, rfl, by decide +kernel, by decide +kernel⟩
theorem ok_Map_roads (X : Tx K mg A) (TB : True) : FnOk P w K mg base CX0 1 (A.a 26) (A.d 26) ["self"] (SpF K (tab A) F_Map_roads) := def_ok (n := 1) (m := 0) X.f26 sc_Map_roads rfl rfl fun cdv A' outer s H E hr =>
  (ss_one (ss_ret (ee_fld X.t__roads (ee_use (pv 0)))))
def F_roads_at : Fm := runF 2 4 (sRet (eLc (gT 2 (gsCons (gN 2) (gsCons (gT 3 (gsCons (gN 3) (gsCons (gN 4) (gsCons (gN 5) (gsNil))))) (gsNil)))) [2, 3, 4, 5] (iEnumD (aCons (oSelf 0 F_Map_roads (eVar 0)) (aNil))) (bB (e2 (oIn false) (eUse 1) (eTup (aCons (eVar 3) (aCons (eVar 4) (aNil)))))) (eVar 2)))
theorem sc_roads_at : FnScope ["chart", "place", "road", "first", "second", "_"] ["chart", "place"] (defScope st_roads_at) := ⟨rfl, rfl, rfl, by decide +kernel, rfl, by decide +kernel, by decide +kernel⟩
theorem ok_roads_at (X : Tx K mg A) (TB : True) : FnOk P w K mg base CX0 3 (A.a 27) (A.d 27) ["chart", "place"] (SpF K (tab A) F_roads_at) := def_ok (n := 2) (m := 4) X.f27 sc_roads_at rfl rfl fun cdv A' outer s H E hr =>
  (ss_one (ss_ret (ee_lc (own := [("road", 2), ("first", 3), ("second", 4), ("_", 5)]) rfl sc_roads_at.nd (ii_enum rfl X.n_enumerate (aa_cons (ee_prop rfl X.cl0 X.p26 (ok_Map_roads X TB) (hr.mono (by decide : 2 ≤ 2)) X.b26 pass0 (ee_var (pv 0))) aa_nil)) (by exact blkOk_by (N := ["chart", "place", "road", "first", "second", "_"]) (sc := defScope st_roads_at) (own := [("road", 2), ("first", 3), ("second", 4), ("_", 5)]) (by decide +kernel)) (fun _ _ _ _ _ => (gg_tup rfl (ggs_cons (gg_name (i := 2) sc_roads_at.nd rfl (by first | exact Or.inl rfl | exact Or.inr rfl)) (ggs_cons (gg_tup rfl (ggs_cons (gg_name (i := 3) sc_roads_at.nd rfl (by first | exact Or.inl rfl | exact Or.inr rfl)) (ggs_cons (gg_name (i := 4) sc_roads_at.nd rfl (by first | exact Or.inl rfl | exact Or.inr rfl)) (ggs_cons (gg_name (i := 5) sc_roads_at.nd rfl (by first | exact Or.inl rfl | exact Or.inr rfl)) ggs_nil)))) ggs_nil)))) (fun _ _ _ _ _ => (ts_one (tt_in (ee_use (pv 1)) (ee_tup (aa_cons (ee_var (pv 3)) (aa_cons (ee_var (pv 4)) aa_nil))) rfl))) (fun _ _ _ _ _ => (ee_var (pv 2))))))
def F__unknown_at : Fm := runF 4 1 (sRet (eLc (gN 4) [4] (iData (eCall F_roads_at (aCons (eVar 0) (aCons (eVar 1) (aNil))))) (bAnd (bB (e2 (oIn true) (eUse 4) (eUse 2))) (bB (e2 (oIn true) (eUse 4) (eUse 3)))) (eVar 4)))
theorem sc__unknown_at : FnScope ["chart", "place", "clear", "shut", "road"] ["chart", "place", "clear", "shut"] (defScope st__unknown_at) := ⟨rfl, rfl, rfl, by decide +kernel, rfl, by decide +kernel, by decide +kernel⟩
theorem ok__unknown_at (X : Tx K mg A) (TB : True) : FnOk P w K mg base CX0 4 (A.a 28) (A.d 28) ["chart", "place", "clear", "shut"] (SpF K (tab A) F__unknown_at) := def_ok (n := 4) (m := 1) X.f28 sc__unknown_at rfl rfl fun cdv A' outer s H E hr =>
  (ss_one (ss_ret (ee_lc (own := [("road", 4)]) rfl sc__unknown_at.nd (ii_data (ee_call (ok_roads_at X TB) (hr.mono (by decide : 3 ≤ 3)) rfl X.g27 X.f27.kp X.b27 pass0 (aa_cons (ee_var (pv 0)) (aa_cons (ee_var (pv 1)) aa_nil)))) (by exact blkOk_by (N := ["chart", "place", "clear", "shut", "road"]) (sc := defScope st__unknown_at) (own := [("road", 4)]) (by decide +kernel)) (fun _ _ _ _ _ => (gg_name (i := 4) sc__unknown_at.nd rfl (by first | exact Or.inl rfl | exact Or.inr rfl))) (fun _ _ _ _ _ => (ts_one (PW.pt (tw_and (tt_notIn (ee_use (pv 4)) (ee_use (pv 2)) rfl) (tw_and1 (tt_notIn (ee_use (pv 4)) (ee_use (pv 3)) rfl)))))) (fun _ _ _ _ _ => (ee_var (pv 4))))))
def F__state_at : Fm := runF 5 2 (sCons (sSet 5 (eLc (gN 6) [6] (iData (eVar 3)) (bB (e2 (oIn true) (eUse 6) (eUse 4))) (eVar 6))) (sRet (eTup (aCons (eVar 0) (aCons (eCB (c1 oTupOf) (aCons (eCB (c1 oSorted) (aCons (eLst (aStar (eUse 1) (aStar (eUse 5) (aNil)))) (aNil))) (aNil))) (aCons (eCB (c1 oTupOf) (aCons (eCB (c1 oSorted) (aCons (eLst (aStar (eUse 2) (aStar (eUse 4) (aNil)))) (aNil))) (aNil))) (aNil)))))))
theorem sc__state_at : FnScope ["place", "clear", "shut", "unknown", "closed", "passable", "road"] ["place", "clear", "shut", "unknown", "closed"] (defScope st__state_at) := ⟨rfl, rfl, rfl, by decide +kernel, rfl, by decide +kernel, by decide +kernel⟩
theorem ok__state_at (X : Tx K mg A) (TB : True) : FnOk P w K mg base CX0 1 (A.a 29) (A.d 29) ["place", "clear", "shut", "unknown", "closed"] (SpF K (tab A) F__state_at) := def_ok (n := 5) (m := 2) X.f29 sc__state_at rfl rfl fun cdv A' outer s H E hr =>
  (ss_cons (ss_setLc (i := 5) (own := [("road", 6)]) rfl sc__state_at.nd rfl rfl rfl (ii_data (ee_var (pv 3))) (by exact blkOk_by (N := ["place", "clear", "shut", "unknown", "closed", "passable", "road"]) (sc := defScope st__state_at) (own := [("road", 6)]) (by decide +kernel)) (fun _ _ _ _ _ => (gg_name (i := 6) sc__state_at.nd rfl (by first | exact Or.inl rfl | exact Or.inr rfl))) (fun _ _ _ _ _ => (ts_one (tt_notIn (ee_use (pv 6)) (ee_use (pv 4)) rfl))) (fun _ _ _ _ _ => (ee_var (pv 6))))
    (ss_one (ss_ret (ee_tup (aa_cons (ee_var (pv 0)) (aa_cons (ee_tuple rfl X.n_tuple (aa_cons (ee_sorted hr.units rfl X.n_sorted (aa_cons (ee_lst (aa_star (ee_use (pv 1)) (aa_star (ee_use (pv 5)) aa_nil))) aa_nil)) aa_nil)) (aa_cons (ee_tuple rfl X.n_tuple (aa_cons (ee_sorted hr.units rfl X.n_sorted (aa_cons (ee_lst (aa_star (ee_use (pv 2)) (aa_star (ee_use (pv 4)) aa_nil))) aa_nil)) aa_nil)) aa_nil)))))))
def F__arrival_in : Fm := runF 5 2 (sCons (sSet 5 (eCall F__unknown_at (aCons (eVar 0) (aCons (eVar 2) (aCons (eVar 3) (aCons (eVar 4) (aNil))))))) (sRet (eCall F__state_at (aCons (eVar 2) (aCons (eVar 3) (aCons (eVar 4) (aCons (eVar 5) (aCons (eLc (gN 6) [6] (iData (eVar 5)) (bB (e2 (oIn false) (eUse 6) (eUse 1))) (eVar 6)) (aNil)))))))))
theorem sc__arrival_in : FnScope ["chart", "world", "place", "clear", "shut", "unknown", "road"] ["chart", "world", "place", "clear", "shut"] (defScope st__arrival_in) := ⟨rfl, rfl, rfl, by decide +kernel, rfl, by decide +kernel, by decide +kernel⟩
theorem ok__arrival_in (X : Tx K mg A) (TB : True) : FnOk P w K mg base CX0 5 (A.a 30) (A.d 30) ["chart", "world", "place", "clear", "shut"] (SpF K (tab A) F__arrival_in) := def_ok (n := 5) (m := 2) X.f30 sc__arrival_in rfl rfl fun cdv A' outer s H E hr =>
  (ss_cons (ss_set (i := 5) sc__arrival_in.nd rfl (by first | exact Or.inl rfl | exact Or.inr rfl) (ee_call (ok__unknown_at X TB) (hr.mono (by decide : 4 ≤ 4)) rfl X.g28 X.f28.kp X.b28 pass0 (aa_cons (ee_var (pv 0)) (aa_cons (ee_var (pv 2)) (aa_cons (ee_var (pv 3)) (aa_cons (ee_var (pv 4)) aa_nil))))))
    (ss_one (ss_ret (ee_call (ok__state_at X TB) (hr.mono (by decide : 1 ≤ 4)) rfl X.g29 X.f29.kp X.b29 pass0 (aa_cons (ee_var (pv 2)) (aa_cons (ee_var (pv 3)) (aa_cons (ee_var (pv 4)) (aa_cons (ee_var (pv 5)) (aa_cons (ee_lc (own := [("road", 6)]) rfl sc__arrival_in.nd (ii_data (ee_var (pv 5))) (by exact blkOk_by (N := ["chart", "world", "place", "clear", "shut", "unknown", "road"]) (sc := defScope st__arrival_in) (own := [("road", 6)]) (by decide +kernel)) (fun _ _ _ _ _ => (gg_name (i := 6) sc__arrival_in.nd rfl (by first | exact Or.inl rfl | exact Or.inr rfl))) (fun _ _ _ _ _ => (ts_one (tt_in (ee_use (pv 6)) (ee_use (pv 1)) rfl))) (fun _ _ _ _ _ => (ee_var (pv 6)))) aa_nil)))))))))
def F_Map_ends : Fm := runF 1 0 (sRet (eFld [(0, 2)] (eUse 0)))
theorem sc_Map_ends : FnScope ["self"] ["self"] (defScope st_Map_ends) := ⟨rfl, rfl, rfl, by decide +kernel, rfl, by decide +kernel, by decide +kernel⟩
theorem ok_Map_ends (X : Tx K mg A) (TB : True) : FnOk P w K mg base CX0 1 (A.a 31) (A.d 31) ["self"] (SpF K (tab A) F_Map_ends) := def_ok (n := 1) (m := 0) X.f31 sc_Map_ends rfl rfl fun cdv A' outer s H E hr =>
  (ss_one (ss_ret (ee_fld X.t__ends (ee_use (pv 0)))))
def F_first_state_in : Fm := runF 2 0 (sRet (eCall F__arrival_in (aCons (eVar 0) (aCons (eVar 1) (aCons (e2 oIx (oSelf 0 F_Map_ends (eVar 0)) (eC (.int 0))) (aCons (eTup (aNil)) (aCons (eTup (aNil)) (aNil))))))))
theorem sc_first_state_in : FnScope ["chart", "world"] ["chart", "world"] (defScope st_first_state_in) := ⟨rfl, rfl, rfl, by decide +kernel, rfl, by decide +kernel, by decide +kernel⟩
theorem ok_first_state_in (X : Tx K mg A) (TB : True) : FnOk P w K mg base CX0 6 (A.a 32) (A.d 32) ["chart", "world"] (SpF K (tab A) F_first_state_in) := def_ok (n := 2) (m := 0) X.f32 sc_first_state_in rfl rfl fun cdv A' outer s H E hr =>
  (ss_one (ss_ret (ee_call (ok__arrival_in X TB) (hr.mono (by decide : 5 ≤ 5)) rfl X.g30 X.f30.kp X.b30 pass0 (aa_cons (ee_var (pv 0)) (aa_cons (ee_var (pv 1)) (aa_cons (ee_sub_ (ee_prop rfl X.cl0 X.p31 (ok_Map_ends X TB) (hr.mono (by decide : 2 ≤ 5)) X.b31 pass0 (ee_var (pv 0))) ee_int (fun _ _ => rfl)) (aa_cons (ee_tup aa_nil) (aa_cons (ee_tup aa_nil) aa_nil))))))))
def F_is_at_goal : Fm := runF 2 0 (sRet (e2 oEq (e2 oIx (eUse 1) (eC (.int 0))) (e2 oIx (oSelf 0 F_Map_ends (eVar 0)) (eC (.int 1)))))
theorem sc_is_at_goal : FnScope ["chart", "state"] ["chart", "state"] (defScope st_is_at_goal) := ⟨rfl, rfl, rfl, by decide +kernel, rfl, by decide +kernel, by decide +kernel⟩
theorem ok_is_at_goal (X : Tx K mg A) (TB : True) : FnOk P w K mg base CX0 3 (A.a 33) (A.d 33) ["chart", "state"] (SpF K (tab A) F_is_at_goal) := def_ok (n := 2) (m := 0) X.f33 sc_is_at_goal rfl rfl fun cdv A' outer s H E hr =>
  (ss_one (ss_ret (ee_eq hr.units (ee_sub_ (ee_use (pv 1)) ee_int (fun _ _ => rfl)) (ee_sub_ (ee_prop rfl X.cl0 X.p31 (ok_Map_ends X TB) (hr.mono (by decide : 2 ≤ 2)) X.b31 pass0 (ee_var (pv 0))) ee_int (fun _ _ => rfl)))))
def F_Map_places : Fm := runF 1 0 (sRet (eFld [(0, 0)] (eUse 0)))
theorem sc_Map_places : FnScope ["self"] ["self"] (defScope st_Map_places) := ⟨rfl, rfl, rfl, by decide +kernel, rfl, by decide +kernel, by decide +kernel⟩
theorem ok_Map_places (X : Tx K mg A) (TB : True) : FnOk P w K mg base CX0 1 (A.a 34) (A.d 34) ["self"] (SpF K (tab A) F_Map_places) := def_ok (n := 1) (m := 0) X.f34 sc_Map_places rfl rfl fun cdv A' outer s H E hr =>
  (ss_one (ss_ret (ee_fld X.t__places (ee_use (pv 0)))))
def F__lower : Fm := runF 4 0 (sCons (sIf (bB (e2 oIsN (e2 oIx (eUse 0) (eUse 1)) (eC .non))) (sRetN) (sNil)) (sIf (bOr (bB (e2 oIsN (e2 oIx (eUse 0) (eUse 2)) (eC .non))) (bB (e2 oLt (e2 oCat (e2 oIx (eUse 0) (eUse 1)) (eUse 3)) (e2 oIx (eUse 0) (eUse 2))))) (sSetIx 0 (eUse 2) (e2 oCat (e2 oIx (eUse 0) (eUse 1)) (eUse 3))) (sNil)))
theorem sc__lower : FnScope ["sums", "start", "end", "price"] ["sums", "start", "end", "price"] (defScope st__lower) := ⟨rfl, rfl, rfl, by decide +kernel, rfl, by decide +kernel, by decide +kernel⟩
theorem ok__lower (X : Tx K mg A) (TB : True) : FnOk P w K mg base CX0 1 (A.a 35) (A.d 35) ["sums", "start", "end", "price"] (SpF K (tab A) F__lower) := def_ok (n := 4) (m := 0) X.f35 sc__lower rfl rfl fun cdv A' outer s H E hr =>
  (ss_cons (ss_if (tt_isN (ee_sub_ (ee_use (pv 0)) (ee_use (pv 1)) (fun _ _ => rfl)) ee_non) (ss_one ss_retN) ss_nil)
    (ss_one (ss_if (PW.pt (tw_or (tt_isN (ee_sub_ (ee_use (pv 0)) (ee_use (pv 2)) (fun _ _ => rfl)) ee_non) (tw_or1 (tt_lt (ee_cat (ee_sub_ (ee_use (pv 0)) (ee_use (pv 1)) (fun _ _ => rfl)) (ee_use (pv 3))) (ee_sub_ (ee_use (pv 0)) (ee_use (pv 2)) (fun _ _ => rfl)))))) (ss_one (ss_setIx (i := 0) (pv 0) (ee_use (pv 2)) (ee_cat (ee_sub_ (ee_use (pv 0)) (ee_use (pv 1)) (fun _ _ => rfl)) (ee_use (pv 3))))) ss_nil)))
def F_least_sums : Fm := runF 4 5 (sCons (sSet 4 (e2 oRep (eLst (aCons (eC .non) (aNil))) (oSelf 0 F_Map_places (eVar 0)))) (sCons (sSetIx 4 (eUse 1) (eC (.int 0))) (sCons (sFor (gN 5) (iRange1 (aCons (e2 oSub (oSelf 0 F_Map_places (eVar 0)) (eC (.int 1))) (aNil))) (sFor (gT 2 (gsCons (gN 6) (gsCons (gT 3 (gsCons (gN 7) (gsCons (gN 8) (gsCons (gN 5) (gsNil))))) (gsNil)))) (iEnumD (aCons (oSelf 0 F_Map_roads (eVar 0)) (aNil))) (sIf (bB (e2 (oIn true) (eUse 6) (eUse 2))) (sCons (sDrop (eCallB F__lower (aCons (eUse 4) (aCons (eVar 7) (aCons (eVar 8) (aCons (e2 oIx (eUse 3) (eUse 6)) (aNil))))))) (sDrop (eCallB F__lower (aCons (eUse 4) (aCons (eVar 8) (aCons (eVar 7) (aCons (e2 oIx (eUse 3) (eUse 6)) (aNil)))))))) (sNil)))) (sRet (eVar 4)))))
theorem sc_least_sums : FnScope ["chart", "begin", "shut", "prices", "sums", "_", "road", "first", "second"] ["chart", "begin", "shut", "prices"] (defScope st_least_sums) := ⟨rfl, rfl, rfl, by decide +kernel, rfl, by decide +kernel, by decide +kernel⟩
theorem ok_least_sums (X : Tx K mg A) (TB : True) : FnOk P w K mg base CX0 3 (A.a 36) (A.d 36) ["chart", "begin", "shut", "prices"] (SpF K (tab A) F_least_sums) := def_ok (n := 4) (m := 5) X.f36 sc_least_sums rfl rfl fun cdv A' outer s H E hr =>
  (ss_cons (ss_set (i := 4) sc_least_sums.nd rfl (by first | exact Or.inl rfl | exact Or.inr rfl) (ee_rep (ee_lst (aa_cons ee_non aa_nil)) (ee_prop rfl X.cl0 X.p34 (ok_Map_places X TB) (hr.mono (by decide : 2 ≤ 2)) X.b34 pass0 (ee_var (pv 0)))))
    (ss_cons (ss_setIx (i := 4) (pv 4) (ee_use (pv 1)) ee_int)
    (ss_cons (ss_for PassesOwn.never rfl (ii_range1 rfl X.n_range (aa_cons (ee_sub (ee_prop rfl X.cl0 X.p34 (ok_Map_places X TB) (hr.mono (by decide : 2 ≤ 2)) X.b34 pass0 (ee_var (pv 0))) ee_int) aa_nil)) (gg_name (i := 5) sc_least_sums.nd rfl (by first | exact Or.inl rfl | exact Or.inr rfl)) (ss_one (ss_for PassesOwn.never rfl (ii_enum rfl X.n_enumerate (aa_cons (ee_prop rfl X.cl0 X.p26 (ok_Map_roads X TB) (hr.mono (by decide : 2 ≤ 2)) X.b26 pass0 (ee_var (pv 0))) aa_nil)) (gg_tup rfl (ggs_cons (gg_name (i := 6) sc_least_sums.nd rfl (by first | exact Or.inl rfl | exact Or.inr rfl)) (ggs_cons (gg_tup rfl (ggs_cons (gg_name (i := 7) sc_least_sums.nd rfl (by first | exact Or.inl rfl | exact Or.inr rfl)) (ggs_cons (gg_name (i := 8) sc_least_sums.nd rfl (by first | exact Or.inl rfl | exact Or.inr rfl)) (ggs_cons (gg_name (i := 5) sc_least_sums.nd rfl (by first | exact Or.inl rfl | exact Or.inr rfl)) ggs_nil)))) ggs_nil))) (ss_one (ss_if (tt_notIn (ee_use (pv 6)) (ee_use (pv 2)) rfl) (ss_cons (ss_expr (ee_callB_ (ok__lower X TB) (hr.mono (by decide : 1 ≤ 2)) rfl X.g35 X.f35.kp X.b35 pass0 (aa_cons (ee_use (pv 4)) (aa_cons (ee_var (pv 7)) (aa_cons (ee_var (pv 8)) (aa_cons (ee_sub_ (ee_use (pv 3)) (ee_use (pv 6)) (fun _ _ => rfl)) aa_nil))))))
    (ss_one (ss_expr (ee_callB_ (ok__lower X TB) (hr.mono (by decide : 1 ≤ 2)) rfl X.g35 X.f35.kp X.b35 pass0 (aa_cons (ee_use (pv 4)) (aa_cons (ee_var (pv 8)) (aa_cons (ee_var (pv 7)) (aa_cons (ee_sub_ (ee_use (pv 3)) (ee_use (pv 6)) (fun _ _ => rfl)) aa_nil)))))))) ss_nil)))))
    (ss_one (ss_ret (ee_var (pv 4)))))))
def F_open_roads : Fm := runF 2 4 (sCons (sAsg (gT 3 (gsCons (gN 2) (gsCons (gN 3) (gsCons (gN 4) (gsNil))))) (eVar 1)) (sRet (eLc (gN 5) [5] (iData (eCall F_roads_at (aCons (eVar 0) (aCons (eVar 2) (aNil))))) (bB (e2 (oIn false) (eUse 5) (eUse 3))) (eVar 5))))
theorem sc_open_roads : FnScope ["chart", "state", "place", "clear", "_", "road"] ["chart", "state"] (defScope st_open_roads) := ⟨rfl, rfl, rfl, by decide +kernel, rfl, by decide +kernel, by decide +kernel⟩
theorem ok_open_roads (X : Tx K mg A) (TB : True) : FnOk P w K mg base CX0 4 (A.a 37) (A.d 37) ["chart", "state"] (SpF K (tab A) F_open_roads) := def_ok (n := 2) (m := 4) X.f37 sc_open_roads rfl rfl fun cdv A' outer s H E hr =>
  (ss_cons (ss_asg (ee_var (pv 1)) (gg_tup rfl (ggs_cons (gg_name (i := 2) sc_open_roads.nd rfl (by first | exact Or.inl rfl | exact Or.inr rfl)) (ggs_cons (gg_name (i := 3) sc_open_roads.nd rfl (by first | exact Or.inl rfl | exact Or.inr rfl)) (ggs_cons (gg_name (i := 4) sc_open_roads.nd rfl (by first | exact Or.inl rfl | exact Or.inr rfl)) ggs_nil)))))
    (ss_one (ss_ret (ee_lc (own := [("road", 5)]) rfl sc_open_roads.nd (ii_data (ee_call (ok_roads_at X TB) (hr.mono (by decide : 3 ≤ 3)) rfl X.g27 X.f27.kp X.b27 pass0 (aa_cons (ee_var (pv 0)) (aa_cons (ee_var (pv 2)) aa_nil)))) (by exact blkOk_by (N := ["chart", "state", "place", "clear", "_", "road"]) (sc := defScope st_open_roads) (own := [("road", 5)]) (by decide +kernel)) (fun _ _ _ _ _ => (gg_name (i := 5) sc_open_roads.nd rfl (by first | exact Or.inl rfl | exact Or.inr rfl))) (fun _ _ _ _ _ => (ts_one (tt_in (ee_use (pv 5)) (ee_use (pv 3)) rfl))) (fun _ _ _ _ _ => (ee_var (pv 5)))))))
def F_other_end : Fm := runF 3 3 (sCons (sAsg (gT 3 (gsCons (gN 3) (gsCons (gN 4) (gsCons (gN 5) (gsNil))))) (e2 oIx (oSelf 0 F_Map_roads (eVar 0)) (eUse 1))) (sRet (eIf (bB (e2 oEq (eUse 2) (eUse 3))) (eVar 4) (eVar 3))))
theorem sc_other_end : FnScope ["chart", "road", "place", "first", "second", "_"] ["chart", "road", "place"] (defScope st_other_end) := ⟨rfl, rfl, rfl, by decide +kernel, rfl, by decide +kernel, by decide +kernel⟩
theorem ok_other_end (X : Tx K mg A) (TB : True) : FnOk P w K mg base CX0 3 (A.a 38) (A.d 38) ["chart", "road", "place"] (SpF K (tab A) F_other_end) := def_ok (n := 3) (m := 3) X.f38 sc_other_end rfl rfl fun cdv A' outer s H E hr =>
  (ss_cons (ss_asg (ee_sub_ (ee_prop rfl X.cl0 X.p26 (ok_Map_roads X TB) (hr.mono (by decide : 2 ≤ 2)) X.b26 pass0 (ee_var (pv 0))) (ee_use (pv 1)) (fun _ _ => rfl)) (gg_tup rfl (ggs_cons (gg_name (i := 3) sc_other_end.nd rfl (by first | exact Or.inl rfl | exact Or.inr rfl)) (ggs_cons (gg_name (i := 4) sc_other_end.nd rfl (by first | exact Or.inl rfl | exact Or.inr rfl)) (ggs_cons (gg_name (i := 5) sc_other_end.nd rfl (by first | exact Or.inl rfl | exact Or.inr rfl)) ggs_nil)))))
    (ss_one (ss_ret (ee_if (tt_eq hr.units (ee_use (pv 2)) (ee_use (pv 3))) (ee_var (pv 4)) (ee_var (pv 3))))))
def F__best_road : Fm := runF 4 4 (sCons (sSet 4 (eCall F_least_sums (aCons (eVar 0) (aCons (e2 oIx (oSelf 0 F_Map_ends (eVar 0)) (eC (.int 1))) (aCons (eVar 2) (aCons (eVar 3) (aNil))))))) (sCons (sSet 5 (eLst (aNil))) (sCons (sFor (gN 6) (iData (eCall F_open_roads (aCons (eVar 0) (aCons (eVar 1) (aNil))))) (sCons (sSet 7 (e2 oIx (eUse 4) (eCall F_other_end (aCons (eVar 0) (aCons (eVar 6) (aCons (e2 oIx (eUse 1) (eC (.int 0))) (aNil))))))) (sIf (bB (e2 oNotN (eUse 7) (eC .non))) (sApp 5 (eTup (aCons (e2 oCat (e2 oIx (eUse 3) (eUse 6)) (eUse 7)) (aCons (eVar 6) (aNil))))) (sNil)))) (sRet (eIf (bT (eUse 5)) (e2 oIx (eCB (c1 oMinAny) (aCons (eUse 5) (aNil))) (eC (.int 1))) (eC .non))))))
theorem sc__best_road : FnScope ["chart", "state", "shut", "prices", "sums", "rests", "road", "behind"] ["chart", "state", "shut", "prices"] (defScope st__best_road) := ⟨rfl, rfl, rfl, by decide +kernel, rfl, by decide +kernel, by decide +kernel⟩
theorem ok__best_road (X : Tx K mg A) (TB : True) : FnOk P w K mg base CX0 5 (A.a 39) (A.d 39) ["chart", "state", "shut", "prices"] (SpF K (tab A) F__best_road) := def_ok (n := 4) (m := 4) X.f39 sc__best_road rfl rfl fun cdv A' outer s H E hr =>
  (ss_cons (ss_set (i := 4) sc__best_road.nd rfl (by first | exact Or.inl rfl | exact Or.inr rfl) (ee_call (ok_least_sums X TB) (hr.mono (by decide : 3 ≤ 4)) rfl X.g36 X.f36.kp X.b36 pass0 (aa_cons (ee_var (pv 0)) (aa_cons (ee_sub_ (ee_prop rfl X.cl0 X.p31 (ok_Map_ends X TB) (hr.mono (by decide : 2 ≤ 4)) X.b31 pass0 (ee_var (pv 0))) ee_int (fun _ _ => rfl)) (aa_cons (ee_var (pv 2)) (aa_cons (ee_var (pv 3)) aa_nil))))))
    (ss_cons (ss_set (i := 5) sc__best_road.nd rfl (by first | exact Or.inl rfl | exact Or.inr rfl) (ee_lst aa_nil))
    (ss_cons (ss_for PassesOwn.never rfl (ii_data (ee_call (ok_open_roads X TB) (hr.mono (by decide : 4 ≤ 4)) rfl X.g37 X.f37.kp X.b37 pass0 (aa_cons (ee_var (pv 0)) (aa_cons (ee_var (pv 1)) aa_nil)))) (gg_name (i := 6) sc__best_road.nd rfl (by first | exact Or.inl rfl | exact Or.inr rfl)) (ss_cons (ss_set (i := 7) sc__best_road.nd rfl (by first | exact Or.inl rfl | exact Or.inr rfl) (ee_sub_ (ee_use (pv 4)) (ee_call (ok_other_end X TB) (hr.mono (by decide : 3 ≤ 4)) rfl X.g38 X.f38.kp X.b38 pass0 (aa_cons (ee_var (pv 0)) (aa_cons (ee_var (pv 6)) (aa_cons (ee_sub_ (ee_use (pv 1)) ee_int (fun _ _ => rfl)) aa_nil)))) (fun _ _ => rfl)))
    (ss_one (ss_if (tt_notN (ee_use (pv 7)) ee_non) (ss_one (ss_app (ps_expr (pe_bm PySem.F.plainAttrs_list PySem.F.slot_list_append PySem.F.type_list_append mt_append (pv 5) (pa_cons (ee_tup (aa_cons (ee_cat (ee_sub_ (ee_use (pv 3)) (ee_use (pv 6)) (fun _ _ => rfl)) (ee_use (pv 7))) (aa_cons (ee_var (pv 6)) aa_nil))) pa_nil))))) ss_nil))))
    (ss_one (ss_ret (ee_if (tt_T (ee_use (pv 5))) (ee_sub_ (ee_minL rfl hr.units rfl X.n_min (aa_cons (ee_use (pv 5)) aa_nil)) ee_int (fun _ _ => rfl)) ee_non))))))
def F_road_lengths : Fm := runF 1 2 (sRet (eLc (gT 3 (gsCons (gN 1) (gsCons (gN 1) (gsCons (gN 2) (gsNil))))) [1, 2] (iData (oSelf 0 F_Map_roads (eVar 0))) (bYes) (eVar 2)))
theorem sc_road_lengths : FnScope ["chart", "_", "length"] ["chart"] (defScope st_road_lengths) := ⟨rfl, rfl, rfl, by decide +kernel, rfl, by decide +kernel, by decide +kernel⟩
theorem ok_road_lengths (X : Tx K mg A) (TB : True) : FnOk P w K mg base CX0 3 (A.a 40) (A.d 40) ["chart"] (SpF K (tab A) F_road_lengths) := def_ok (n := 1) (m := 2) X.f40 sc_road_lengths rfl rfl fun cdv A' outer s H E hr =>
  (ss_one (ss_ret (ee_lc (own := [("_", 1), ("length", 2)]) rfl sc_road_lengths.nd (ii_data (ee_prop rfl X.cl0 X.p26 (ok_Map_roads X TB) (hr.mono (by decide : 2 ≤ 2)) X.b26 pass0 (ee_var (pv 0)))) (by exact blkOk_by (N := ["chart", "_", "length"]) (sc := defScope st_road_lengths) (own := [("_", 1), ("length", 2)]) (by decide +kernel)) (fun _ _ _ _ _ => (gg_tup rfl (ggs_cons (gg_name (i := 1) sc_road_lengths.nd rfl (by first | exact Or.inl rfl | exact Or.inr rfl)) (ggs_cons (gg_name (i := 1) sc_road_lengths.nd rfl (by first | exact Or.inl rfl | exact Or.inr rfl)) (ggs_cons (gg_name (i := 2) sc_road_lengths.nd rfl (by first | exact Or.inl rfl | exact Or.inr rfl)) ggs_nil))))) (fun _ _ _ _ _ => ts_nil) (fun _ _ _ _ _ => (ee_var (pv 2))))))
def F__next_road : Fm := runF 3 6 (sCons (sIf (bB (eCall F_is_at_goal (aCons (eVar 0) (aCons (eVar 1) (aNil))))) (sRet (eC .non)) (sNil)) (sCons (sAsg (gT 3 (gsCons (gN 5) (gsCons (gN 6) (gsCons (gN 7) (gsNil))))) (eVar 1)) (sCons (sIf (bB (e2 oEq (eUse 2) (eC (.str "few")))) (sRet (eCall F__best_road (aCons (eVar 0) (aCons (eVar 1) (aCons (eVar 7) (aCons (e2 oRep (eLst (aCons (eC (.int 1)) (aNil))) (eLenO 0 F_Map___len__ (eVar 0))) (aNil))))))) (sNil)) (sCons (sSet 3 (eCall F_road_lengths (aCons (eVar 0) (aNil)))) (sCons (sSet 4 (eC .non)) (sCons (sIf (bB (e2 oEq (eUse 2) (eC (.str "known")))) (sSet 4 (eCall F__best_road (aCons (eVar 0) (aCons (eVar 1) (aCons (eLc (gN 8) [8] (iRange1 (aCons (eLenO 0 F_Map___len__ (eVar 0)) (aNil))) (bB (e2 (oIn true) (eUse 8) (eUse 6))) (eVar 8)) (aCons (eVar 3) (aNil))))))) (sNil)) (sRet (eIf (bB (e2 oIsN (eUse 4) (eC .non))) (eCall F__best_road (aCons (eVar 0) (aCons (eVar 1) (aCons (eVar 7) (aCons (eVar 3) (aNil)))))) (eVar 4)))))))))
theorem sc__next_road : FnScope ["chart", "state", "rule", "lengths", "best", "_", "clear", "shut", "road"] ["chart", "state", "rule"] (defScope st__next_road) := ⟨rfl, rfl, rfl, by decide +kernel, rfl, by decide +kernel, by decide +kernel⟩
theorem ok__next_road (X : Tx K mg A) (TB : True) : FnOk P w K mg base CX0 6 (A.a 41) (A.d 41) ["chart", "state", "rule"] (SpF K (tab A) F__next_road) := def_ok (n := 3) (m := 6) X.f41 sc__next_road rfl rfl fun cdv A' outer s H E hr =>
  (ss_cons (ss_if (tt_B (ee_call (ok_is_at_goal X TB) (hr.mono (by decide : 3 ≤ 5)) rfl X.g33 X.f33.kp X.b33 pass0 (aa_cons (ee_var (pv 0)) (aa_cons (ee_var (pv 1)) aa_nil)))) (ss_one (ss_ret ee_non)) ss_nil)
    (ss_cons (ss_asg (ee_var (pv 1)) (gg_tup rfl (ggs_cons (gg_name (i := 5) sc__next_road.nd rfl (by first | exact Or.inl rfl | exact Or.inr rfl)) (ggs_cons (gg_name (i := 6) sc__next_road.nd rfl (by first | exact Or.inl rfl | exact Or.inr rfl)) (ggs_cons (gg_name (i := 7) sc__next_road.nd rfl (by first | exact Or.inl rfl | exact Or.inr rfl)) ggs_nil)))))
    (ss_cons (ss_if (tt_eq hr.units (ee_use (pv 2)) ee_str) (ss_one (ss_ret (ee_call (ok__best_road X TB) (hr.mono (by decide : 5 ≤ 5)) rfl X.g39 X.f39.kp X.b39 pass0 (aa_cons (ee_var (pv 0)) (aa_cons (ee_var (pv 1)) (aa_cons (ee_var (pv 7)) (aa_cons (ee_rep (ee_lst (aa_cons ee_int aa_nil)) (ee_lenO rfl X.ln0 X.lf0 (ok_Map___len__ X TB) (hr.mono (by decide : 2 ≤ 5)) X.b18 pass0 rfl X.n_len (ee_var (pv 0)))) aa_nil))))))) ss_nil)
    (ss_cons (ss_set (i := 3) sc__next_road.nd rfl (by first | exact Or.inl rfl | exact Or.inr rfl) (ee_call (ok_road_lengths X TB) (hr.mono (by decide : 3 ≤ 5)) rfl X.g40 X.f40.kp X.b40 pass0 (aa_cons (ee_var (pv 0)) aa_nil)))
    (ss_cons (ss_set (i := 4) sc__next_road.nd rfl (by first | exact Or.inl rfl | exact Or.inr rfl) ee_non)
    (ss_cons (ss_if (tt_eq hr.units (ee_use (pv 2)) ee_str) (ss_one (ss_set (i := 4) sc__next_road.nd rfl (by first | exact Or.inl rfl | exact Or.inr rfl) (ee_call (ok__best_road X TB) (hr.mono (by decide : 5 ≤ 5)) rfl X.g39 X.f39.kp X.b39 pass0 (aa_cons (ee_var (pv 0)) (aa_cons (ee_var (pv 1)) (aa_cons (ee_lc (own := [("road", 8)]) rfl sc__next_road.nd (ii_range1 rfl X.n_range (aa_cons (ee_lenO rfl X.ln0 X.lf0 (ok_Map___len__ X TB) (hr.mono (by decide : 2 ≤ 5)) X.b18 pass0 rfl X.n_len (ee_var (pv 0))) aa_nil)) (by exact blkOk_by (N := ["chart", "state", "rule", "lengths", "best", "_", "clear", "shut", "road"]) (sc := defScope st__next_road) (own := [("road", 8)]) (by decide +kernel)) (fun _ _ _ _ _ => (gg_name (i := 8) sc__next_road.nd rfl (by first | exact Or.inl rfl | exact Or.inr rfl))) (fun _ _ _ _ _ => (ts_one (tt_notIn (ee_use (pv 8)) (ee_use (pv 6)) rfl))) (fun _ _ _ _ _ => (ee_var (pv 8)))) (aa_cons (ee_var (pv 3)) aa_nil))))))) ss_nil)
    (ss_one (ss_ret (ee_if (tt_isN (ee_use (pv 4)) ee_non) (ee_call (ok__best_road X TB) (hr.mono (by decide : 5 ≤ 5)) rfl X.g39 X.f39.kp X.b39 pass0 (aa_cons (ee_var (pv 0)) (aa_cons (ee_var (pv 1)) (aa_cons (ee_var (pv 7)) (aa_cons (ee_var (pv 3)) aa_nil))))) (ee_var (pv 4)))))))))))
def F_state_after_in : Fm := runF 4 3 (sCons (sAsg (gT 3 (gsCons (gN 4) (gsCons (gN 5) (gsCons (gN 6) (gsNil))))) (eVar 2)) (sRet (eCall F__arrival_in (aCons (eVar 0) (aCons (eVar 1) (aCons (eCall F_other_end (aCons (eVar 0) (aCons (eVar 3) (aCons (eVar 4) (aNil))))) (aCons (eVar 5) (aCons (eVar 6) (aNil)))))))))
theorem sc_state_after_in : FnScope ["chart", "world", "state", "road", "place", "clear", "shut"] ["chart", "world", "state", "road"] (defScope st_state_after_in) := ⟨rfl, rfl, rfl, by decide +kernel, rfl, by decide +kernel, by decide +kernel⟩
theorem ok_state_after_in (X : Tx K mg A) (TB : True) : FnOk P w K mg base CX0 6 (A.a 42) (A.d 42) ["chart", "world", "state", "road"] (SpF K (tab A) F_state_after_in) := def_ok (n := 4) (m := 3) X.f42 sc_state_after_in rfl rfl fun cdv A' outer s H E hr =>
  (ss_cons (ss_asg (ee_var (pv 2)) (gg_tup rfl (ggs_cons (gg_name (i := 4) sc_state_after_in.nd rfl (by first | exact Or.inl rfl | exact Or.inr rfl)) (ggs_cons (gg_name (i := 5) sc_state_after_in.nd rfl (by first | exact Or.inl rfl | exact Or.inr rfl)) (ggs_cons (gg_name (i := 6) sc_state_after_in.nd rfl (by first | exact Or.inl rfl | exact Or.inr rfl)) ggs_nil)))))
    (ss_one (ss_ret (ee_call (ok__arrival_in X TB) (hr.mono (by decide : 5 ≤ 5)) rfl X.g30 X.f30.kp X.b30 pass0 (aa_cons (ee_var (pv 0)) (aa_cons (ee_var (pv 1)) (aa_cons (ee_call (ok_other_end X TB) (hr.mono (by decide : 3 ≤ 5)) rfl X.g38 X.f38.kp X.b38 pass0 (aa_cons (ee_var (pv 0)) (aa_cons (ee_var (pv 3)) (aa_cons (ee_var (pv 4)) aa_nil)))) (aa_cons (ee_var (pv 5)) (aa_cons (ee_var (pv 6)) aa_nil)))))))))
def F__whole_walk : Fm := runF 3 3 (sCons (sSet 3 (eCall F_first_state_in (aCons (eVar 0) (aCons (eVar 1) (aNil))))) (sCons (sSet 4 (eLst (aNil))) (sCons (sSet 5 (eCall F__next_road (aCons (eVar 0) (aCons (eVar 3) (aCons (eVar 2) (aNil)))))) (sCons (sWhile (bB (e2 oNotN (eUse 5) (eC .non))) (sCons (sApp 4 (eVar 5)) (sCons (sSet 3 (eCall F_state_after_in (aCons (eVar 0) (aCons (eVar 1) (aCons (eVar 3) (aCons (eVar 5) (aNil))))))) (sSet 5 (eCall F__next_road (aCons (eVar 0) (aCons (eVar 3) (aCons (eVar 2) (aNil)))))))) 4000) (sRet (eTup (aCons (eVar 4) (aCons (eVar 3) (aNil)))))))))
theorem sc__whole_walk : FnScope ["chart", "world", "rule", "state", "taken", "road"] ["chart", "world", "rule"] (defScope st__whole_walk) := ⟨rfl, rfl, rfl, by decide +kernel, rfl, by decide +kernel, by decide +kernel⟩
theorem ok__whole_walk (X : Tx K mg A) (TB : True) : FnOk P w K mg base CX0 7 (A.a 43) (A.d 43) ["chart", "world", "rule"] (SpF K (tab A) F__whole_walk) := def_ok (n := 3) (m := 3) X.f43 sc__whole_walk rfl rfl fun cdv A' outer s H E hr =>
  (ss_cons (ss_set (i := 3) sc__whole_walk.nd rfl (by first | exact Or.inl rfl | exact Or.inr rfl) (ee_call (ok_first_state_in X TB) (hr.mono (by decide : 6 ≤ 6)) rfl X.g32 X.f32.kp X.b32 pass0 (aa_cons (ee_var (pv 0)) (aa_cons (ee_var (pv 1)) aa_nil))))
    (ss_cons (ss_set (i := 4) sc__whole_walk.nd rfl (by first | exact Or.inl rfl | exact Or.inr rfl) (ee_lst aa_nil))
    (ss_cons (ss_set (i := 5) sc__whole_walk.nd rfl (by first | exact Or.inl rfl | exact Or.inr rfl) (ee_call (ok__next_road X TB) (hr.mono (by decide : 6 ≤ 6)) rfl X.g41 X.f41.kp X.b41 pass0 (aa_cons (ee_var (pv 0)) (aa_cons (ee_var (pv 3)) (aa_cons (ee_var (pv 2)) aa_nil)))))
    (ss_cons (ss_while 4000 PassesOwn.never (tt_notN (ee_use (pv 5)) ee_non) (ss_cons (ss_app (ps_expr (pe_bm PySem.F.plainAttrs_list PySem.F.slot_list_append PySem.F.type_list_append mt_append (pv 4) (pa_cons (ee_var (pv 5)) pa_nil))))
    (ss_cons (ss_set (i := 3) sc__whole_walk.nd rfl (by first | exact Or.inl rfl | exact Or.inr rfl) (ee_call (ok_state_after_in X TB) (hr.mono (by decide : 6 ≤ 6)) rfl X.g42 X.f42.kp X.b42 pass0 (aa_cons (ee_var (pv 0)) (aa_cons (ee_var (pv 1)) (aa_cons (ee_var (pv 3)) (aa_cons (ee_var (pv 5)) aa_nil))))))
    (ss_one (ss_set (i := 5) sc__whole_walk.nd rfl (by first | exact Or.inl rfl | exact Or.inr rfl) (ee_call (ok__next_road X TB) (hr.mono (by decide : 6 ≤ 6)) rfl X.g41 X.f41.kp X.b41 pass0 (aa_cons (ee_var (pv 0)) (aa_cons (ee_var (pv 3)) (aa_cons (ee_var (pv 2)) aa_nil)))))))))
    (ss_one (ss_ret (ee_tup (aa_cons (ee_var (pv 4)) (aa_cons (ee_var (pv 3)) aa_nil)))))))))
def F_walk : Fm := runF 3 2 (sCons (sDrop (eCall F__check_walk (aCons (eVar 0) (aCons (eVar 1) (aCons (eVar 2) (aNil)))))) (sCons (sAsg (gT 2 (gsCons (gN 3) (gsCons (gN 4) (gsNil)))) (eCall F__whole_walk (aCons (eVar 0) (aCons (eVar 1) (aCons (eVar 2) (aNil)))))) (sRet (eVar 3))))
theorem sc_walk : FnScope ["chart", "world", "rule", "taken", "_"] ["chart", "world", "rule"] (defScope st_walk) := ⟨rfl, rfl, rfl, by decide +kernel, rfl, by decide +kernel, by decide +kernel⟩
theorem ok_walk (X : Tx K mg A) (TB : True) : FnOk P w K mg base CX0 8 (A.a 44) (A.d 44) ["chart", "world", "rule"] (SpF K (tab A) F_walk) := def_ok (n := 3) (m := 2) X.f44 sc_walk rfl rfl fun cdv A' outer s H E hr =>
  (ss_cons (ss_expr (ee_call (ok__check_walk X TB) (hr.mono (by decide : 7 ≤ 7)) rfl X.g25 X.f25.kp X.b25 pass0 (aa_cons (ee_var (pv 0)) (aa_cons (ee_var (pv 1)) (aa_cons (ee_var (pv 2)) aa_nil)))))
    (ss_cons (ss_asg (ee_call (ok__whole_walk X TB) (hr.mono (by decide : 7 ≤ 7)) rfl X.g43 X.f43.kp X.b43 pass0 (aa_cons (ee_var (pv 0)) (aa_cons (ee_var (pv 1)) (aa_cons (ee_var (pv 2)) aa_nil)))) (gg_tup rfl (ggs_cons (gg_name (i := 3) sc_walk.nd rfl (by first | exact Or.inl rfl | exact Or.inr rfl)) (ggs_cons (gg_name (i := 4) sc_walk.nd rfl (by first | exact Or.inl rfl | exact Or.inr rfl)) ggs_nil))))
    (ss_one (ss_ret (ee_var (pv 3))))))
def F_walked : Fm := runF 3 4 (sCons (sDrop (eCall F__check_walk (aCons (eVar 0) (aCons (eVar 1) (aCons (eVar 2) (aNil)))))) (sCons (sAsg (gT 2 (gsCons (gN 4) (gsCons (gN 5) (gsNil)))) (eCall F__whole_walk (aCons (eVar 0) (aCons (eVar 1) (aCons (eVar 2) (aNil)))))) (sCons (sSet 3 (eCall F_road_lengths (aCons (eVar 0) (aNil)))) (sRet (eIf (bB (eCall F_is_at_goal (aCons (eVar 0) (aCons (eVar 5) (aNil))))) (eCB (c1 oSum) (aCons (eLc (gN 6) [6] (iData (eVar 4)) (bYes) (e2 oIx (eUse 3) (eUse 6))) (aNil))) (eC .non))))))
theorem sc_walked : FnScope ["chart", "world", "rule", "lengths", "taken", "state", "road"] ["chart", "world", "rule"] (defScope st_walked) := ⟨rfl, rfl, rfl, by decide +kernel, rfl, by decide +kernel, by decide +kernel⟩
theorem ok_walked (X : Tx K mg A) (TB : True) : FnOk P w K mg base CX0 8 (A.a 45) (A.d 45) ["chart", "world", "rule"] (SpF K (tab A) F_walked) := def_ok (n := 3) (m := 4) X.f45 sc_walked rfl rfl fun cdv A' outer s H E hr =>
  (ss_cons (ss_expr (ee_call (ok__check_walk X TB) (hr.mono (by decide : 7 ≤ 7)) rfl X.g25 X.f25.kp X.b25 pass0 (aa_cons (ee_var (pv 0)) (aa_cons (ee_var (pv 1)) (aa_cons (ee_var (pv 2)) aa_nil)))))
    (ss_cons (ss_asg (ee_call (ok__whole_walk X TB) (hr.mono (by decide : 7 ≤ 7)) rfl X.g43 X.f43.kp X.b43 pass0 (aa_cons (ee_var (pv 0)) (aa_cons (ee_var (pv 1)) (aa_cons (ee_var (pv 2)) aa_nil)))) (gg_tup rfl (ggs_cons (gg_name (i := 4) sc_walked.nd rfl (by first | exact Or.inl rfl | exact Or.inr rfl)) (ggs_cons (gg_name (i := 5) sc_walked.nd rfl (by first | exact Or.inl rfl | exact Or.inr rfl)) ggs_nil))))
    (ss_cons (ss_set (i := 3) sc_walked.nd rfl (by first | exact Or.inl rfl | exact Or.inr rfl) (ee_call (ok_road_lengths X TB) (hr.mono (by decide : 3 ≤ 7)) rfl X.g40 X.f40.kp X.b40 pass0 (aa_cons (ee_var (pv 0)) aa_nil)))
    (ss_one (ss_ret (ee_if (tt_B (ee_call (ok_is_at_goal X TB) (hr.mono (by decide : 3 ≤ 7)) rfl X.g33 X.f33.kp X.b33 pass0 (aa_cons (ee_var (pv 0)) (aa_cons (ee_var (pv 5)) aa_nil)))) (ee_sum rfl rfl X.n_sum (aa_cons (ee_lc (own := [("road", 6)]) rfl sc_walked.nd (ii_data (ee_var (pv 4))) (by exact blkOk_by (N := ["chart", "world", "rule", "lengths", "taken", "state", "road"]) (sc := defScope st_walked) (own := [("road", 6)]) (by decide +kernel)) (fun _ _ _ _ _ => (gg_name (i := 6) sc_walked.nd rfl (by first | exact Or.inl rfl | exact Or.inr rfl))) (fun _ _ _ _ _ => ts_nil) (fun _ _ _ _ _ => (ee_sub_ (ee_use (pv 3)) (ee_use (pv 6)) (fun _ _ => rfl)))) aa_nil)) ee_non))))))
def F_small_sets : Fm := runF 2 5 (sCons (sSet 2 (eLst (aCons (eTup (aNil)) (aNil)))) (sCons (sSet 3 (eLst (aCons (eTup (aNil)) (aNil)))) (sCons (sFor (gN 4) (iRange1 (aCons (eUse 1) (aNil))) (sCons (sSet 3 (eLc2 (gN 5) (iData (eVar 3)) (bYes) (iData (eVar 0)) (gN 6) [6] [5, 6] (bOr (bB (e2 oEq (eUse 5) (eTup (aNil)))) (bB (e2 oLt (e2 oIx (eUse 5) (e1 oNeg (eC (.int 1)))) (eUse 6)))) (eTup (aStar (eUse 5) (aCons (eVar 6) (aNil)))))) (sExt 2 (eVar 3)))) (sRet (eVar 2)))))
theorem sc_small_sets : FnScope ["roads", "most", "found", "layer", "_", "some", "road"] ["roads", "most"] (defScope st_small_sets) := ⟨rfl, rfl, rfl, by decide +kernel, rfl, by decide +kernel, by decide +kernel⟩
theorem ok_small_sets (X : Tx K mg A) (TB : True) : FnOk P w K mg base CX0 1 (A.a 46) (A.d 46) ["roads", "most"] (SpF K (tab A) F_small_sets) := def_ok (n := 2) (m := 5) X.f46 sc_small_sets rfl rfl fun cdv A' outer s H E hr =>
  (ss_cons (ss_set (i := 2) sc_small_sets.nd rfl (by first | exact Or.inl rfl | exact Or.inr rfl) (ee_lst (aa_cons (ee_tup aa_nil) aa_nil)))
    (ss_cons (ss_set (i := 3) sc_small_sets.nd rfl (by first | exact Or.inl rfl | exact Or.inr rfl) (ee_lst (aa_cons (ee_tup aa_nil) aa_nil)))
    (ss_cons (ss_for PassesOwn.never rfl (ii_range1 rfl X.n_range (aa_cons (ee_use (pv 1)) aa_nil)) (gg_name (i := 4) sc_small_sets.nd rfl (by first | exact Or.inl rfl | exact Or.inr rfl)) (ss_cons (ss_setLc2 (i := 3) (own := [("some", 5), ("road", 6)]) rfl sc_small_sets.nd rfl rfl rfl (ii_data (ee_var (pv 3))) (by exact blkOk_by (N := ["roads", "most", "found", "layer", "_", "some", "road"]) (sc := defScope st_small_sets) (own := [("some", 5), ("road", 6)]) (by decide +kernel)) (vs1 := [6]) (by decide) (fun _ _ _ _ _ => (gg_name (i := 5) sc_small_sets.nd rfl (by first | exact Or.inl rfl | exact Or.inr rfl))) (fun _ _ _ _ _ => ts_nil) (fun _ _ _ _ _ => (ii_data (ee_var (pv 0)))) (fun _ _ _ _ _ => (gg_name (i := 6) sc_small_sets.nd rfl (by first | exact Or.inl rfl | exact Or.inr rfl))) (fun _ _ _ _ _ => (ts_one (PW.pt (tw_or (tt_eq hr.units (ee_use (pv 5)) (ee_tup aa_nil)) (tw_or1 (tt_lt (ee_sub_ (ee_use (pv 5)) (ee_neg ee_int) (fun _ _ => rfl)) (ee_use (pv 6)))))))) (fun _ _ _ _ _ => (ee_tup (aa_star (ee_use (pv 5)) (aa_cons (ee_var (pv 6)) aa_nil)))))
    (ss_one (ss_ext (ps_expr (pe_bm PySem.F.plainAttrs_list PySem.F.slot_list_extend PySem.F.type_list_extend mt_extend (pv 2) (pa_cons (ee_var (pv 3)) pa_nil)))))))
    (ss_one (ss_ret (ee_var (pv 2)))))))
def F_worlds : Fm := runF 1 0 (sCons (sDrop (eCall F_check_map (aCons (eVar 0) (aNil)))) (sRet (eCall F_small_sets (aCons (e1 oLRange (eLenO 0 F_Map___len__ (eVar 0))) (aCons (oSelf 0 F_Map_most (eVar 0)) (aNil))))))
theorem sc_worlds : FnScope ["chart"] ["chart"] (defScope st_worlds) := ⟨rfl, rfl, rfl, by decide +kernel, rfl, by decide +kernel, by decide +kernel⟩
theorem ok_worlds (X : Tx K mg A) (TB : True) : FnOk P w K mg base CX0 3 (A.a 47) (A.d 47) ["chart"] (SpF K (tab A) F_worlds) := def_ok (n := 1) (m := 0) X.f47 sc_worlds rfl rfl fun cdv A' outer s H E hr =>
  (ss_cons (ss_expr (ee_call (ok_check_map X TB) (hr.mono (by decide : 1 ≤ 2)) rfl X.g17 X.f17.kp X.b17 pass0 (aa_cons (ee_var (pv 0)) aa_nil)))
    (ss_one (ss_ret (ee_call (ok_small_sets X TB) (hr.mono (by decide : 1 ≤ 2)) rfl X.g46 X.f46.kp X.b46 pass0 (aa_cons (ee_lrange rfl rfl X.n_list rfl X.n_range (ee_lenO rfl X.ln0 X.lf0 (ok_Map___len__ X TB) (hr.mono (by decide : 2 ≤ 2)) X.b18 pass0 rfl X.n_len (ee_var (pv 0)))) (aa_cons (ee_prop rfl X.cl0 X.p21 (ok_Map_most X TB) (hr.mono (by decide : 2 ≤ 2)) X.b21 pass0 (ee_var (pv 0))) aa_nil))))))
def F_worst : Fm := runF 2 3 (sCons (sDrop (eCall F_check_map (aCons (eVar 0) (aNil)))) (sCons (sDrop (eCall F__check_rule (aCons (eVar 1) (aNil)))) (sCons (sSet 2 (eC .non)) (sCons (sFor (gN 3) (iData (eCall F_worlds (aCons (eVar 0) (aNil)))) (sCons (sSet 4 (eCall F_walked (aCons (eVar 0) (aCons (eVar 3) (aCons (eVar 1) (aNil)))))) (sIf (bAnd (bB (e2 oNotN (eUse 4) (eC .non))) (bOr (bB (e2 oIsN (eUse 2) (eC .non))) (bB (e2 oGt (eUse 4) (e2 oIx (eUse 2) (eC (.int 0))))))) (sSet 2 (eTup (aCons (eVar 4) (aCons (eVar 3) (aNil))))) (sNil)))) (sRet (eVar 2))))))
theorem sc_worst : FnScope ["chart", "rule", "found", "world", "length"] ["chart", "rule"] (defScope st_worst) := ⟨rfl, rfl, rfl, by decide +kernel, rfl, by decide +kernel, by decide +kernel⟩
theorem ok_worst (X : Tx K mg A) (TB : True) : FnOk P w K mg base CX0 9 (A.a 48) (A.d 48) ["chart", "rule"] (SpF K (tab A) F_worst) := def_ok (n := 2) (m := 3) X.f48 sc_worst rfl rfl fun cdv A' outer s H E hr =>
  (ss_cons (ss_expr (ee_call (ok_check_map X TB) (hr.mono (by decide : 1 ≤ 8)) rfl X.g17 X.f17.kp X.b17 pass0 (aa_cons (ee_var (pv 0)) aa_nil)))
    (ss_cons (ss_expr (ee_call (ok__check_rule X TB) (hr.mono (by decide : 1 ≤ 8)) rfl X.g24 X.f24.kp X.b24 pass0 (aa_cons (ee_var (pv 1)) aa_nil)))
    (ss_cons (ss_set (i := 2) sc_worst.nd rfl (by first | exact Or.inl rfl | exact Or.inr rfl) ee_non)
    (ss_cons (ss_for PassesOwn.never rfl (ii_data (ee_call (ok_worlds X TB) (hr.mono (by decide : 3 ≤ 8)) rfl X.g47 X.f47.kp X.b47 pass0 (aa_cons (ee_var (pv 0)) aa_nil))) (gg_name (i := 3) sc_worst.nd rfl (by first | exact Or.inl rfl | exact Or.inr rfl)) (ss_cons (ss_set (i := 4) sc_worst.nd rfl (by first | exact Or.inl rfl | exact Or.inr rfl) (ee_call (ok_walked X TB) (hr.mono (by decide : 8 ≤ 8)) rfl X.g45 X.f45.kp X.b45 pass0 (aa_cons (ee_var (pv 0)) (aa_cons (ee_var (pv 3)) (aa_cons (ee_var (pv 1)) aa_nil)))))
    (ss_one (ss_if (PW.pt (tw_and (tt_notN (ee_use (pv 4)) ee_non) (tw_and1 (PW.pt (tw_or (tt_isN (ee_use (pv 2)) ee_non) (tw_or1 (tt_gt (ee_use (pv 4)) (ee_sub_ (ee_use (pv 2)) ee_int (fun _ _ => rfl))))))))) (ss_one (ss_set (i := 2) sc_worst.nd rfl (by first | exact Or.inl rfl | exact Or.inr rfl) (ee_tup (aa_cons (ee_var (pv 4)) (aa_cons (ee_var (pv 3)) aa_nil))))) ss_nil))))
    (ss_one (ss_ret (ee_var (pv 2))))))))
def F_best_rules : Fm := runF 1 6 (sCons (sDrop (eCall F_check_map (aCons (eVar 0) (aNil)))) (sCons (sSet 1 (eLst (aNil))) (sCons (sFor (gN 2) (iData (eC (.tup ((["near", "few", "known"] : List Str).map D.str)))) (sCons (sSet 4 (eCall F_worst (aCons (eVar 0) (aCons (eVar 2) (aNil))))) (sIf (bB (e2 oNotN (eUse 4) (eC .non))) (sApp 1 (eTup (aCons (e2 oIx (eUse 4) (eC (.int 0))) (aCons (eVar 2) (aNil))))) (sNil)))) (sCons (sSet 3 (e1 oMinDef (eLc (gT 2 (gsCons (gN 5) (gsCons (gN 6) (gsNil)))) [5, 6] (iData (eVar 1)) (bYes) (eVar 5)))) (sRet (eLc (gT 2 (gsCons (gN 5) (gsCons (gN 2) (gsNil)))) [5, 2] (iData (eVar 1)) (bB (e2 oEq (eUse 5) (eUse 3))) (eVar 2)))))))
theorem sc_best_rules : FnScope ["chart", "found", "rule", "least", "at_worst", "length", "_"] ["chart"] (defScope st_best_rules) := ⟨rfl, rfl, rfl, by decide +kernel, rfl, by decide +kernel, by decide +kernel⟩
theorem ok_best_rules (X : Tx K mg A) (TB : True) : FnOk P w K mg base CX0 10 (A.a 49) (A.d 49) ["chart"] (SpF K (tab A) F_best_rules) := def_ok (n := 1) (m := 6) X.f49 sc_best_rules rfl rfl fun cdv A' outer s H E hr =>
  (ss_cons (ss_expr (ee_call (ok_check_map X TB) (hr.mono (by decide : 1 ≤ 9)) rfl X.g17 X.f17.kp X.b17 pass0 (aa_cons (ee_var (pv 0)) aa_nil)))
    (ss_cons (ss_set (i := 1) sc_best_rules.nd rfl (by first | exact Or.inl rfl | exact Or.inr rfl) (ee_lst aa_nil))
    (ss_cons (ss_for PassesOwn.never rfl (ii_data (ee_gtup rfl X.tc_RULES)) (gg_name (i := 2) sc_best_rules.nd rfl (by first | exact Or.inl rfl | exact Or.inr rfl)) (ss_cons (ss_set (i := 4) sc_best_rules.nd rfl (by first | exact Or.inl rfl | exact Or.inr rfl) (ee_call (ok_worst X TB) (hr.mono (by decide : 9 ≤ 9)) rfl X.g48 X.f48.kp X.b48 pass0 (aa_cons (ee_var (pv 0)) (aa_cons (ee_var (pv 2)) aa_nil))))
    (ss_one (ss_if (tt_notN (ee_use (pv 4)) ee_non) (ss_one (ss_app (ps_expr (pe_bm PySem.F.plainAttrs_list PySem.F.slot_list_append PySem.F.type_list_append mt_append (pv 1) (pa_cons (ee_tup (aa_cons (ee_sub_ (ee_use (pv 4)) ee_int (fun _ _ => rfl)) (aa_cons (ee_var (pv 2)) aa_nil))) pa_nil))))) ss_nil))))
    (ss_cons (ss_set (i := 3) sc_best_rules.nd rfl (by first | exact Or.inl rfl | exact Or.inr rfl) (ee_minDef rfl rfl X.n_min (ee_lc (own := [("length", 5), ("_", 6)]) rfl sc_best_rules.nd (ii_data (ee_var (pv 1))) (by exact blkOk_by (N := ["chart", "found", "rule", "least", "at_worst", "length", "_"]) (sc := defScope st_best_rules) (own := [("length", 5), ("_", 6)]) (by decide +kernel)) (fun _ _ _ _ _ => (gg_tup rfl (ggs_cons (gg_name (i := 5) sc_best_rules.nd rfl (by first | exact Or.inl rfl | exact Or.inr rfl)) (ggs_cons (gg_name (i := 6) sc_best_rules.nd rfl (by first | exact Or.inl rfl | exact Or.inr rfl)) ggs_nil)))) (fun _ _ _ _ _ => ts_nil) (fun _ _ _ _ _ => (ee_var (pv 5))))))
    (ss_one (ss_ret (ee_lc (own := [("length", 5), ("rule", 2)]) rfl sc_best_rules.nd (ii_data (ee_var (pv 1))) (by exact blkOk_by (N := ["chart", "found", "rule", "least", "at_worst", "length", "_"]) (sc := defScope st_best_rules) (own := [("length", 5), ("rule", 2)]) (by decide +kernel)) (fun _ _ _ _ _ => (gg_tup rfl (ggs_cons (gg_name (i := 5) sc_best_rules.nd rfl (by first | exact Or.inl rfl | exact Or.inr rfl)) (ggs_cons (gg_name (i := 2) sc_best_rules.nd rfl (by first | exact Or.inl rfl | exact Or.inr rfl)) ggs_nil)))) (fun _ _ _ _ _ => (ts_one (tt_eq hr.units (ee_use (pv 5)) (ee_use (pv 3))))) (fun _ _ _ _ _ => (ee_var (pv 2))))))))))
def F__law_all_right : Fm := runF 1 12 (sCons (sSet 1 (eCall F__law_plan (aCons (eVar 0) (aCons (eC (.int 10)) (aCons (e2 oIx (eTup (aCons (eC (.int 3)) (aCons (eC (.int 5)) (aCons (eC (.int 8)) (aNil))))) (e2 oMod (eCB (c1 oIntOf) (aCons (eCall F__law_number (aCons (eVar 0) (aCons (eC (.int 2)) (aNil)))) (aNil))) (eC (.int 3)))) (aNil)))))) (sCons (sPar 3 4 (eMake 0 F_Map___init__ (aCons (e2 oIx (eUse 1) (eC (.int 0))) (aCons (e2 oIx (eUse 1) (eC (.int 1))) (aCons (e2 oIx (eUse 1) (eC (.int 2))) (aCons (e2 oIx (eUse 1) (eC (.int 3))) (aNil)))))) (eCall F__law_some (aCons (e1 oLRange (eCB (c1 oLen) (aCons (e2 oIx (eUse 1) (eC (.int 1))) (aNil)))) (aCons (e2 oIx (eUse 1) (eC (.int 3))) (aNil))))) (sCons (sIf (bB (e2 oNe (eC (.tup ((["near", "few", "known"] : List Str).map D.str))) (eTup (aCons (eC (.str "near")) (aCons (eC (.str "few")) (aCons (eC (.str "known")) (aNil))))))) (sRet (eC (.bl false))) (sNil)) (sCons (sParL [5, 6] (aoCons (eLst (aNil)) (aoCons (eLst (aNil)) (aoNil)))) (sCons (sFor (gN 2) (iData (eC (.tup ((["near", "few", "known"] : List Str).map D.str)))) (sCons (sSet 7 (eC .non)) (sCons (sFor (gN 8) (iData (eVar 4)) (sCons (sAsg (gT 2 (gsCons (gN 10) (gsCons (gN 11) (gsNil)))) (eCall F__law_walk (aCons (eVar 1) (aCons (eVar 8) (aCons (eVar 2) (aNil)))))) (sCons (sSet 9 (eIf (bB (e2 oEq (eUse 11) (e2 oIx (e2 oIx (eUse 1) (eC (.int 2))) (eC (.int 1))))) (eCB (c1 oSum) (aCons (eLc (gN 12) [12] (iData (eVar 10)) (bYes) (e2 oIx (e2 oIx (e2 oIx (eUse 1) (eC (.int 1))) (eUse 12)) (eC (.int 2)))) (aNil))) (eC .non))) (sCons (sIf (bOr (bB (e2 oNe (eCall F_walk (aCons (eVar 3) (aCons (eVar 8) (aCons (eVar 2) (aNil))))) (eUse 10))) (bB (e2 oNe (eCall F_walked (aCons (eVar 3) (aCons (eVar 8) (aCons (eVar 2) (aNil))))) (eUse 9)))) (sRet (eC (.bl false))) (sNil)) (sIf (bAnd (bB (e2 oNotN (eUse 9) (eC .non))) (bOr (bB (e2 oIsN (eUse 7) (eC .non))) (bB (e2 oGt (eUse 9) (e2 oIx (eUse 7) (eC (.int 0))))))) (sSet 7 (eTup (aCons (eVar 9) (aCons (eVar 8) (aNil))))) (sNil)))))) (sCons (sIf (bB (e2 oNe (eCall F_worst (aCons (eVar 3) (aCons (eVar 2) (aNil)))) (eUse 7))) (sRet (eC (.bl false))) (sNil)) (sCons (sSet 5 (e2 oCat (eUse 5) (eIf (bB (e2 oNotN (eUse 7) (eC .non))) (eLst (aCons (e2 oIx (eUse 7) (eC (.int 0))) (aNil))) (eLst (aNil))))) (sSet 6 (e2 oCat (eUse 6) (eIf (bB (e2 oNotN (eUse 7) (eC .non))) (eLst (aCons (eTup (aCons (e2 oIx (eUse 7) (eC (.int 0))) (aCons (eVar 2) (aNil)))) (aNil))) (eLst (aNil)))))))))) (sRet (e2 oEq (eCall F_best_rules (aCons (eVar 3) (aNil))) (eLc (gT 2 (gsCons (gN 9) (gsCons (gN 2) (gsNil)))) [9, 2] (iData (eVar 6)) (bB (e2 oEq (eUse 9) (eCB (c1 oMinAny) (aCons (eUse 5) (aNil))))) (eVar 2)))))))))
theorem sc__law_all_right : FnScope ["_law_script", "_law_plan_here", "_law_rule", "_law_chart", "_law_every", "_law_lengths", "_law_able", "_law_most", "_law_world", "_law_length", "_law_roads", "_law_place", "_law_road"] ["_law_script"] (defScope st__law_all_right) := ⟨rfl, rfl, rfl, by decide +kernel, rfl, by decide +kernel, by decide +kernel⟩
theorem ok__law_all_right (X : Tx K mg A) (TB : True) : FnOk P w K mg base CX0 11 (A.a 50) (A.d 50) ["_law_script"] (SpF K (tab A) F__law_all_right) := def_ok (n := 1) (m := 12) X.f50 sc__law_all_right rfl rfl fun cdv A' outer s H E hr =>
  (ss_cons (ss_set (i := 1) sc__law_all_right.nd rfl (by first | exact Or.inl rfl | exact Or.inr rfl) (ee_call (ok__law_plan X TB) (hr.mono (by decide : 2 ≤ 10)) rfl X.g1 X.f1.kp X.b1 pass0 (aa_cons (ee_var (pv 0)) (aa_cons ee_int (aa_cons (ee_sub_ (ee_tup (aa_cons ee_int (aa_cons ee_int (aa_cons ee_int aa_nil)))) (ee_mod (ee_int_ rfl X.n_int (aa_cons (ee_call (ok__law_number X TB) (hr.mono (by decide : 1 ≤ 10)) rfl X.g0 X.f0.kp X.b0 pass0 (aa_cons (ee_var (pv 0)) (aa_cons ee_int aa_nil))) aa_nil)) ee_int) (fun _ _ => rfl)) aa_nil)))))
    (ss_cons (ss_par (i := 3) (j := 4) rfl sc__law_all_right.nd rfl rfl (by decide) rfl rfl (ee_make rfl X.mk0 (ok_Map___init__ X TB) (hr.mono (by decide : 6 ≤ 10)) rfl X.gc0 X.b8 pass0 (aa_cons (ee_sub_ (ee_use (pv 1)) ee_int (fun _ _ => rfl)) (aa_cons (ee_sub_ (ee_use (pv 1)) ee_int (fun _ _ => rfl)) (aa_cons (ee_sub_ (ee_use (pv 1)) ee_int (fun _ _ => rfl)) (aa_cons (ee_sub_ (ee_use (pv 1)) ee_int (fun _ _ => rfl)) aa_nil))))) (ee_call (ok__law_some X TB) (hr.mono (by decide : 1 ≤ 10)) rfl X.g9 X.f9.kp X.b9 pass0 (aa_cons (ee_lrange rfl rfl X.n_list rfl X.n_range (ee_len rfl X.n_len (aa_cons (ee_sub_ (ee_use (pv 1)) ee_int (fun _ _ => rfl)) aa_nil))) (aa_cons (ee_sub_ (ee_use (pv 1)) ee_int (fun _ _ => rfl)) aa_nil))))
    (ss_cons (ss_if (tt_ne hr.units (ee_gtup rfl X.tc_RULES) (ee_tup (aa_cons ee_str (aa_cons ee_str (aa_cons ee_str aa_nil))))) (ss_one (ss_ret ee_bl)) ss_nil)
    (ss_cons (ss_par2c (i := 5) (j := 6) rfl sc__law_all_right.nd rfl rfl (by first | exact Or.inl rfl | exact Or.inr rfl) (by first | exact Or.inl rfl | exact Or.inr rfl) (ao_cons (ee_lst aa_nil) (ao_cons (ee_lst aa_nil) ao_nil)))
    (ss_cons (ss_for PassesOwn.never rfl (ii_data (ee_gtup rfl X.tc_RULES)) (gg_name (i := 2) sc__law_all_right.nd rfl (by first | exact Or.inl rfl | exact Or.inr rfl)) (ss_cons (ss_set (i := 7) sc__law_all_right.nd rfl (by first | exact Or.inl rfl | exact Or.inr rfl) ee_non)
    (ss_cons (ss_for PassesOwn.never rfl (ii_data (ee_var (pv 4))) (gg_name (i := 8) sc__law_all_right.nd rfl (by first | exact Or.inl rfl | exact Or.inr rfl)) (ss_cons (ss_asg (ee_call (ok__law_walk X TB) (hr.mono (by decide : 6 ≤ 10)) rfl X.g16 X.f16.kp X.b16 pass0 (aa_cons (ee_var (pv 1)) (aa_cons (ee_var (pv 8)) (aa_cons (ee_var (pv 2)) aa_nil)))) (gg_tup rfl (ggs_cons (gg_name (i := 10) sc__law_all_right.nd rfl (by first | exact Or.inl rfl | exact Or.inr rfl)) (ggs_cons (gg_name (i := 11) sc__law_all_right.nd rfl (by first | exact Or.inl rfl | exact Or.inr rfl)) ggs_nil))))
    (ss_cons (ss_set (i := 9) sc__law_all_right.nd rfl (by first | exact Or.inl rfl | exact Or.inr rfl) (ee_if (tt_eq hr.units (ee_use (pv 11)) (ee_sub_ (ee_sub_ (ee_use (pv 1)) ee_int (fun _ _ => rfl)) ee_int (fun _ _ => rfl))) (ee_sum rfl rfl X.n_sum (aa_cons (ee_lc (own := [("_law_road", 12)]) rfl sc__law_all_right.nd (ii_data (ee_var (pv 10))) (by exact blkOk_by (N := ["_law_script", "_law_plan_here", "_law_rule", "_law_chart", "_law_every", "_law_lengths", "_law_able", "_law_most", "_law_world", "_law_length", "_law_roads", "_law_place", "_law_road"]) (sc := defScope st__law_all_right) (own := [("_law_road", 12)]) (by decide +kernel)) (fun _ _ _ _ _ => (gg_name (i := 12) sc__law_all_right.nd rfl (by first | exact Or.inl rfl | exact Or.inr rfl))) (fun _ _ _ _ _ => ts_nil) (fun _ _ _ _ _ => (ee_sub_ (ee_sub_ (ee_sub_ (ee_use (pv 1)) ee_int (fun _ _ => rfl)) (ee_use (pv 12)) (fun _ _ => rfl)) ee_int (fun _ _ => rfl)))) aa_nil)) ee_non))
    (ss_cons (ss_if (PW.pt (tw_or (tt_ne hr.units (ee_call (ok_walk X TB) (hr.mono (by decide : 8 ≤ 10)) rfl X.g44 X.f44.kp X.b44 pass0 (aa_cons (ee_var (pv 3)) (aa_cons (ee_var (pv 8)) (aa_cons (ee_var (pv 2)) aa_nil)))) (ee_use (pv 10))) (tw_or1 (tt_ne hr.units (ee_call (ok_walked X TB) (hr.mono (by decide : 8 ≤ 10)) rfl X.g45 X.f45.kp X.b45 pass0 (aa_cons (ee_var (pv 3)) (aa_cons (ee_var (pv 8)) (aa_cons (ee_var (pv 2)) aa_nil)))) (ee_use (pv 9)))))) (ss_one (ss_ret ee_bl)) ss_nil)
    (ss_one (ss_if (PW.pt (tw_and (tt_notN (ee_use (pv 9)) ee_non) (tw_and1 (PW.pt (tw_or (tt_isN (ee_use (pv 7)) ee_non) (tw_or1 (tt_gt (ee_use (pv 9)) (ee_sub_ (ee_use (pv 7)) ee_int (fun _ _ => rfl))))))))) (ss_one (ss_set (i := 7) sc__law_all_right.nd rfl (by first | exact Or.inl rfl | exact Or.inr rfl) (ee_tup (aa_cons (ee_var (pv 9)) (aa_cons (ee_var (pv 8)) aa_nil))))) ss_nil))))))
    (ss_cons (ss_if (tt_ne hr.units (ee_call (ok_worst X TB) (hr.mono (by decide : 9 ≤ 10)) rfl X.g48 X.f48.kp X.b48 pass0 (aa_cons (ee_var (pv 3)) (aa_cons (ee_var (pv 2)) aa_nil))) (ee_use (pv 7))) (ss_one (ss_ret ee_bl)) ss_nil)
    (ss_cons (ss_set (i := 5) sc__law_all_right.nd rfl (by first | exact Or.inl rfl | exact Or.inr rfl) (ee_cat (ee_use (pv 5)) (ee_if (tt_notN (ee_use (pv 7)) ee_non) (ee_lst (aa_cons (ee_sub_ (ee_use (pv 7)) ee_int (fun _ _ => rfl)) aa_nil)) (ee_lst aa_nil))))
    (ss_one (ss_set (i := 6) sc__law_all_right.nd rfl (by first | exact Or.inl rfl | exact Or.inr rfl) (ee_cat (ee_use (pv 6)) (ee_if (tt_notN (ee_use (pv 7)) ee_non) (ee_lst (aa_cons (ee_tup (aa_cons (ee_sub_ (ee_use (pv 7)) ee_int (fun _ _ => rfl)) (aa_cons (ee_var (pv 2)) aa_nil))) aa_nil)) (ee_lst aa_nil))))))))))
    (ss_one (ss_ret (ee_eq hr.units (ee_call (ok_best_rules X TB) (hr.mono (by decide : 10 ≤ 10)) rfl X.g49 X.f49.kp X.b49 pass0 (aa_cons (ee_var (pv 3)) aa_nil)) (ee_lc (own := [("_law_length", 9), ("_law_rule", 2)]) rfl sc__law_all_right.nd (ii_data (ee_var (pv 6))) (by exact blkOk_by (N := ["_law_script", "_law_plan_here", "_law_rule", "_law_chart", "_law_every", "_law_lengths", "_law_able", "_law_most", "_law_world", "_law_length", "_law_roads", "_law_place", "_law_road"]) (sc := defScope st__law_all_right) (own := [("_law_length", 9), ("_law_rule", 2)]) (by decide +kernel)) (fun _ _ _ _ _ => (gg_tup rfl (ggs_cons (gg_name (i := 9) sc__law_all_right.nd rfl (by first | exact Or.inl rfl | exact Or.inr rfl)) (ggs_cons (gg_name (i := 2) sc__law_all_right.nd rfl (by first | exact Or.inl rfl | exact Or.inr rfl)) ggs_nil)))) (fun _ _ _ _ _ => (ts_one (tt_eq hr.units (ee_use (pv 9)) (ee_minL rfl hr.units rfl X.n_min (aa_cons (ee_use (pv 5)) aa_nil))))) (fun _ _ _ _ _ => (ee_var (pv 2))))))))))))
def F_law : Fm := runF 1 0 (sRet (eCall F__law_all_right (aCons (eVar 0) (aNil))))
theorem sc_law : FnScope ["_law_script"] ["_law_script"] (defScope st_law) := ⟨rfl, rfl, rfl, by decide +kernel, rfl, by decide +kernel, by decide +kernel⟩
theorem ok_law (X : Tx K mg A) (TB : True) : FnOk P w K mg base CX0 12 (A.a 51) (A.d 51) ["_law_script"] (SpF K (tab A) F_law) := def_ok (n := 1) (m := 0) X.f51 sc_law rfl rfl fun cdv A' outer s H E hr =>
  (ss_one (ss_try (ss_one (ss_ret (ee_call (ok__law_all_right X TB) (hr.mono (by decide : 11 ≤ 11)) rfl X.g50 X.f50.kp X.b50 pass0 (aa_cons (ee_var (pv 0)) aa_nil))))))
end
end Dt
end

section
set_option Elab.async false
set_option linter.all false
set_option maxRecDepth 100000
set_option maxHeartbeats 4000000
set_option autoImplicit false
namespace Dt
open PySem PySem.Spec PyProof.Rows L2
/-! ### the functions on slots, by simp -/
section
variable {ρ : Env} {i j n m : Nat} {d e : D} {f g h : EF} {p q : BF} {a : AF} {s t : SF} {src : IF} {gf : GF}
@[simp] theorem z_getD {β : Type} (k : D → Env → Res β) : getD f k ρ = (f ρ).bind fun p => (Res.of (deref p.2 p.1.hold)).bind fun d => k d p.2 := rfl
@[simp] theorem z_getB {β : Type} (k : Bool → Env → Res β) : getB p k ρ = (p ρ).bind fun x => k x.1 x.2 := rfl
@[simp] theorem z_eVar : eVar i ρ = match ρ[i]? with
  | some (.fro d) => .ok (.fro d, ρ)
  | some (.own d) => .ok (.fro d, ρ.set i (.fro d))
  | _ => .bad := rfl
@[simp] theorem z_eUse : eUse i ρ = match ρ[i]? with
  | some (.fro d) => .ok (.fro d, ρ)
  | some (.own _) => .ok (.bor i, ρ)
  | some (.brw _) => .ok (.bor i, ρ)
  | _ => .bad := rfl
@[simp] theorem z_eC : eC d ρ = .ok (.fro d, ρ) := rfl
@[simp] theorem z_e1 (k : D → Res RV) : e1 k f ρ = (f ρ).bind fun (x, ρ1) => (Res.of (deref ρ1 x.hold)).bind fun d => (k d).bind fun r => .ok (r, ρ1) := rfl
@[simp] theorem z_e2 (k : D → D → Res RV) : e2 k f g ρ = (f ρ).bind fun (x, ρ1) => (g ρ1).bind fun (y, ρ2) => (Res.of (deref ρ2 x.hold)).bind fun d => (Res.of (deref ρ2 y.hold)).bind fun e => (k d e).bind fun r => .ok (r, ρ2) := rfl
@[simp] theorem z_hold_fro : RV.hold (.fro d) = .fro d := rfl
@[simp] theorem z_hold_own : RV.hold (.own d) = .fro d := rfl
@[simp] theorem z_hold_bor : RV.hold (.bor i) = .bor i := rfl
@[simp] theorem z_deref_fro : deref ρ (.fro d) = some d := rfl
@[simp] theorem z_deref_own : deref ρ (.own d) = some d := rfl
@[simp] theorem z_deref_bor : deref ρ (.bor i) = match ρ[i]? with
    | some (.fro d) => some d
    | some (.own d) => some d
    | some (.brw d) => some d
    | _ => none := rfl
@[simp] theorem z_bB : bB f ρ = (f ρ).bind fun p => (Res.of (deref p.2 p.1.hold)).bind fun d => match d with
  | .bl b => .ok (b, p.2)
  | _ => .bad := rfl
@[simp] theorem z_bAnd : bAnd p q ρ = (p ρ).bind fun x => if x.1 = true then q x.2 else .ok (false, x.2) := rfl
@[simp] theorem z_bOr : bOr p q ρ = (p ρ).bind fun x => if x.1 = true then .ok (true, x.2) else q x.2 := rfl
@[simp] theorem z_bNot : bNot p ρ = (p ρ).bind fun x => .ok (!x.1, x.2) := rfl
@[simp] theorem z_eIf : eIf p f g ρ = (p ρ).bind fun x => if x.1 = true then f x.2 else g x.2 := rfl
@[simp] theorem z_eAnd : eAnd f g ρ = (f ρ).bind fun p => (Res.of (deref p.2 p.1.hold)).bind fun d => match d with
  | .bl b => if b = true then g p.2 else .ok (.fro (.bl false), p.2)
  | _ => .bad := rfl
@[simp] theorem z_eOr : eOr f g ρ = (f ρ).bind fun p => (Res.of (deref p.2 p.1.hold)).bind fun d => match d with
  | .bl b => if b = true then .ok (.fro (.bl true), p.2) else g p.2
  | _ => .bad := rfl
@[simp] theorem z_eNot : eNot f ρ = (f ρ).bind fun p => (Res.of (deref p.2 p.1.hold)).bind fun d => match d with
  | .bl b => .ok (.fro (.bl (!b)), p.2)
  | _ => .bad := rfl
@[simp] theorem z_eChain (k k' : D → D → Res RV) : eChain k k' f g h ρ = (f ρ).bind fun (x, ρ1) => (g ρ1).bind fun (y, ρ2) => (Res.of (deref ρ2 x.hold)).bind fun d => (Res.of (deref ρ2 y.hold)).bind fun e => (k d e).bind fun r => match r with
  | .fro (.bl b) => if b = true then (h ρ2).bind fun (z, ρ3) => (Res.of (deref ρ3 y.hold)).bind fun e => (Res.of (deref ρ3 z.hold)).bind fun h => (k' e h).bind fun r => .ok (r, ρ3) else .ok (.fro (.bl false), ρ2)
  | _ => .bad := rfl
@[simp] theorem z_aNil : aNil ρ = .ok ([], ρ) := rfl
@[simp] theorem z_aCons : aCons f a ρ = (f ρ).bind fun (x, ρ1) => (a ρ1).bind fun (xs, ρ2) => .ok (x.hold :: xs, ρ2) := rfl
@[simp] theorem z_aStar : aStar f a ρ = (f ρ).bind fun p => (Res.of (deref p.2 p.1.hold)).bind fun d => (Res.of d.items).bind fun ds => (a p.2).bind fun p => .ok (ds.map .fro ++ p.1, p.2) := rfl
@[simp] theorem z_frozen_nil : frozen [] = some [] := rfl
@[simp] theorem z_frozen_cons (r : List RV) : frozen (.fro d :: r) = (frozen r).map (d :: ·) := rfl
@[simp] theorem z_derefs_nil : derefs ρ [] = some [] := rfl
@[simp] theorem z_derefs_cons (r : RV) (rs : List RV) : derefs ρ (r :: rs) = match deref ρ r, derefs ρ rs with
    | some d, some ds => some (d :: ds)
    | _, _ => none := rfl
@[simp] theorem z_eTup : eTup a ρ = (a ρ).bind fun (rs, ρ1) => (Res.of (frozen rs)).bind fun ds => if ds.length ≤ sizeLine then .ok (.fro (.tup ds), ρ1) else .bad := rfl
@[simp] theorem z_eLst : eLst a ρ = (a ρ).bind fun (rs, ρ1) => (Res.of (frozen rs)).bind fun ds => if ds.length ≤ sizeLine then .ok (.own (.lst ds), ρ1) else .bad := rfl
@[simp] theorem z_eCB (k : List D → Res RV) : eCB k a ρ = (a ρ).bind fun (rs, ρ1) => (Res.of (derefs ρ1 rs)).bind fun ds => (k ds).bind fun r => .ok (r, ρ1) := rfl
@[simp] theorem z_c1 (k : D → Res RV) : c1 k [d] = k d := rfl
@[simp] theorem z_c2 (k : D → D → Res RV) : c2 k [d, e] = k d e := rfl
@[simp] theorem z_sNil : sNil ρ = .ok (.nx, ρ) := rfl
@[simp] theorem z_sCons : sCons s t ρ = (s ρ).bind fun p => match p.1 with
  | .nx => t p.2
  | fl => .ok (fl, p.2) := rfl
@[simp] theorem z_sDrop : sDrop f ρ = (f ρ).bind fun p => .ok (.nx, p.2) := rfl
@[simp] theorem z_sRet : sRet f ρ = (f ρ).bind fun p => .ok (.ret p.1, p.2) := rfl
@[simp] theorem z_sRetN : sRetN ρ = .ok (.ret (.fro .non), ρ) := rfl
@[simp] theorem z_sIf : sIf p s t ρ = (p ρ).bind fun x => if x.1 = true then s x.2 else t x.2 := rfl
@[simp] theorem z_sSet : sSet i f ρ = (f ρ).bind fun p => (Res.of (storeC p.1)).bind fun c => .ok (.nx, p.2.set i c) := rfl
@[simp] theorem z_sPar : sPar i j f g ρ = (f ρ).bind fun p => (g p.2).bind fun q => (Res.of (storeC p.1)).bind fun c => (Res.of (storeC q.1)).bind fun d => .ok (.nx, (q.2.set i c).set j d) := rfl
@[simp] theorem z_store_fro : storeC (.fro d) = some (.fro d) := rfl
@[simp] theorem z_store_own : storeC (.own d) = some (.own d) := rfl
@[simp] theorem z_sAsg : sAsg gf f ρ = (f ρ).bind fun p => match p.1 with
  | .fro d => (gf d p.2).bind fun ρ1 => .ok (.nx, ρ1)
  | .own d => (gf d p.2).bind fun ρ1 => .ok (.nx, ρ1)
  | _ => .bad := rfl
@[simp] theorem z_gN : gN i d ρ = .ok (ρ.set i (.fro d)) := rfl
@[simp] theorem z_gsNil : gsNil [] ρ = .ok ρ := rfl
@[simp] theorem z_gsCons (k : List D → Env → Res Env) (ds : List D) : gsCons gf k (d :: ds) ρ = (gf d ρ).bind fun ρ1 => k ds ρ1 := rfl
@[simp] theorem z_gT (k : List D → Env → Res Env) (ds : List D) : gT n k (.tup ds) ρ = if ds.length = n then k ds ρ else .bad := rfl
@[simp] theorem z_sFor : sFor gf src s ρ = (src ρ).bind fun p => forL gf s p.1 p.2 := rfl
@[simp] theorem z_runF (cs : List Cell) : runF n m s cs = if cs.length = n then (s (cs ++ List.replicate m .un)).bind fun p => if n ≤ p.2.length then (match p.1 with
    | .nx => .ok (.fro .non, (p.2.take n).map outC)
    | .ret (.fro d) => .ok (.fro d, (p.2.take n).map outC)
    | .ret (.own d) => .ok (.own d, (p.2.take n).map outC)
    | _ => .bad) else .bad else .bad := rfl
@[simp] theorem z_eCall (k : Fm) : eCall k a ρ = (a ρ).bind fun p => (Res.of (frozen p.1)).bind fun ds => (k (ds.map .fro)).bind fun q => if q.1.made = true then .ok (q.1, p.2) else .bad := rfl
@[simp] theorem z_made_fro : (RV.fro d).made = true := rfl
@[simp] theorem z_made_own : (RV.own d).made = true := rfl
@[simp] theorem z_oSelf (c : Nat) (k : Fm) : oSelf c k f ρ = (f ρ).bind fun p => match p.1 with
  | .fro (.obj n ds) => (Res.need (n == c)).bind fun _ => (k [.fro (.obj n ds)]).bind fun q => (Res.need q.1.made).bind fun _ => .ok (q.1, p.2)
  | _ => .bad := rfl
theorem z_eLenO (c : Nat) (k : Fm) : eLenO c k f ρ = (oSelf c k f ρ).bind fun p => match p.1 with
  | .fro (.int n) => (Res.need (decide (0 ≤ n) && decide (n < 2 ^ 63))).bind fun _ => .ok (.fro (.int n), p.2)
  | _ => .bad := rfl
@[simp] theorem z_eFld (tbl : List (Nat × Nat)) : eFld tbl f ρ = (f ρ).bind fun p => (Res.of (deref p.2 p.1.hold)).bind fun d => match d with
  | .obj c ds => (Res.of (tbl.lookup c)).bind fun k => (Res.of ds[k]?).bind fun x => .ok (.fro x, p.2)
  | _ => .bad := rfl
@[simp] theorem z_gInt (k : Int → Int → Res RV) (x y : Int) : gInt k (.int x) (.int y) = k x y := rfl
@[simp] theorem z_oInt (c : Int → Int → Bool) (k : Int → Int → Int) (x y : Int) : oInt c k (.int x) (.int y) = if c x y then .ok (.fro (.int (k x y))) else .bad := rfl
@[simp] theorem z_oCmp (k : Int → Int → Bool) (x y : Int) : oCmp k (.int x) (.int y) = .ok (.fro (.bl (k x y))) := rfl
@[simp] theorem z_oCat_int (x y : Int) : oCat (.int x) (.int y) = .ok (.fro (.int (x + y))) := rfl
@[simp] theorem z_oIsi (k : Isi) : oIsi k d = (Res.of (k.of d)).bind fun b => .ok (.fro (.bl b)) := rfl
@[simp] theorem z_oIntOf (x : Int) : oIntOf (.int x) = .ok (.fro (.int x)) := rfl
@[simp] theorem z_outC_un : outC .un = .un := rfl
@[simp] theorem z_outC_fro : outC (.fro d) = .un := rfl
@[simp] theorem z_outC_own : outC (.own d) = .un := rfl
@[simp] theorem z_outC_brw : outC (.brw d) = .brw d := rfl
end
theorem m_integer (v : Int) : F_is_integer [.fro (.int v)] = .ok (.fro (.bl true), [.un]) := by
  simp [F_is_integer, isi_int, isi_bool, Isi.of]
theorem m_within (v lo hi : Int) : F_is_within [.fro (.int v), .fro (.int lo), .fro (.int hi)] = .ok (.fro (.bl (decide (lo ≤ v) && decide (v ≤ hi))), [.un, .un, .un]) := by
  simp [F_is_within, m_integer]
  by_cases h : lo ≤ v <;> simp [h]
end Dt
end

section
set_option Elab.async false
set_option linter.all false
set_option maxRecDepth 100000
set_option maxHeartbeats 4000000
set_option autoImplicit false
namespace Dt
open PySem PySem.Spec PyProof.Rows L2
/-! ### data that is equal to itself -/
inductive Gd : Nat → D → Prop
  | non {n : Nat} : Gd n .non
  | bl {n : Nat} (b : Bool) : Gd n (.bl b)
  | int {n : Nat} (i : Int) : Gd n (.int i)
  | tup {n : Nat} {xs : List D} : (∀ x ∈ xs, Gd n x) → Gd (n + 1) (.tup xs)
  | lst {n : Nat} {xs : List D} : (∀ x ∈ xs, Gd n x) → Gd (n + 1) (.lst xs)
theorem gd_all {n : Nat} : ∀ {xs : List D}, (∀ x ∈ xs, ∃ p, x.py = some p ∧ p.canLay0 = true ∧ p.depth ≤ n) → ∃ ps, D.pys xs = some ps ∧ PyData.canLayAll0 ps = true ∧ PyData.depthAll ps ≤ n
  | [], _ => ⟨[], rfl, rfl, Nat.zero_le _⟩
  | x :: xs, h => by
    obtain ⟨p, h1, h2, h3⟩ := h x (List.mem_cons_self ..)
    obtain ⟨ps, h4, h5, h6⟩ := gd_all (xs := xs) fun y hy => h y (List.mem_cons_of_mem _ hy)
    refine ⟨p :: ps, by rw [D.pys, h1, h4], ?_, ?_⟩
    · rw [PyData.canLayAll0, h2, h5]; rfl
    · rw [PyData.depthAll]; exact Nat.max_le.mpr ⟨h3, h6⟩
theorem Gd.py {n : Nat} {d : D} (h : Gd n d) : ∃ p, d.py = some p ∧ p.canLay0 = true ∧ p.depth ≤ n := by
  induction h with
  | non => exact ⟨_, rfl, rfl, Nat.zero_le _⟩
  | bl b => exact ⟨_, rfl, rfl, Nat.zero_le _⟩
  | int i => exact ⟨_, rfl, rfl, Nat.zero_le _⟩
  | tup _ ih =>
    obtain ⟨ps, h1, h2, h3⟩ := gd_all ih
    exact ⟨.tuple ps, by rw [D.py, h1]; rfl, by rw [PyData.canLay0]; exact h2, by rw [PyData.depth]; exact Nat.succ_le_succ h3⟩
  | lst _ ih =>
    obtain ⟨ps, h1, h2, h3⟩ := gd_all ih
    exact ⟨.list ps, by rw [D.py, h1]; rfl, by rw [PyData.canLay0]; exact h2, by rw [PyData.depth]; exact Nat.succ_le_succ h3⟩
theorem Gd.eqv {n : Nat} {d : D} (h : Gd n d) (hn : n ≤ 64 := by decide) : d.eqv d = some true := by
  obtain ⟨p, h1, h2, h3⟩ := h.py
  have hs : SeqAt.shaped p = true := by
    unfold SeqAt.shaped
    rw [h2, decide_eq_true (Nat.le_trans h3 hn)]; rfl
  unfold D.eqv
  rw [h1]
  simp only [hs, Bool.and_self, if_true]
  rw [SeqAt.eqv_refl p h2]
theorem oNe_self {n : Nat} {d : D} (h : Gd n d) (hn : n ≤ 64 := by decide) : oNe d d = .ok (.fro (.bl false)) := by unfold oNe; rw [h.eqv hn]; rfl
theorem oEq_self {n : Nat} {d : D} (h : Gd n d) (hn : n ≤ 64 := by decide) : oEq d d = .ok (.fro (.bl true)) := by unfold oEq; rw [h.eqv hn]; rfl
@[simp] theorem eqv_int (x y : Int) : D.eqv (.int x) (.int y) = some (x == y) := rfl
@[simp] theorem z_oNe_int (x y : Int) : oNe (.int x) (.int y) = .ok (.fro (.bl (!(x == y)))) := rfl
@[simp] theorem z_oEq_int (x y : Int) : oEq (.int x) (.int y) = .ok (.fro (.bl (x == y))) := rfl
@[simp] theorem z_oLen_tup (xs : List D) : oLen (.tup xs) = .ok (.fro (.int xs.length)) := rfl
@[simp] theorem z_oLen_lst (xs : List D) : oLen (.lst xs) = .ok (.fro (.int xs.length)) := rfl
@[simp] theorem z_oListOf_tup (xs : List D) : oListOf (.tup xs) = .ok (.own (.lst xs)) := rfl
@[simp] theorem z_oTupOf_lst (xs : List D) : oTupOf (.lst xs) = .ok (.fro (.tup xs)) := rfl
/-! ### comprehensions -/
theorem lcL_map {gf : GF} {vs : List Nat} {tt : BF} {te : EF} {ρ0 : Env} (b : D → Bool) (y : D → D) : ∀ {ds : List D} {acc : List D}, (∀ d ∈ ds, ∃ ρ1 ρ2, gf d ρ0 = .ok ρ1 ∧ tt ρ1 = .ok (b d, ρ2) ∧ (b d = false → wipeE ρ2 vs = ρ0) ∧ (b d = true → ∃ r ρ3, te ρ2 = .ok (r, ρ3) ∧ r.take = some (y d) ∧ wipeE ρ3 vs = ρ0)) →
    acc.length + ds.length ≤ sizeLine → lcL gf vs tt te ds ρ0 acc = .ok (acc ++ (ds.filter b).map y, ρ0)
  | [], acc, _, _ => by simp [lcL]
  | d :: ds, acc, h, hl => by
    obtain ⟨ρ1, ρ2, h1, h2, h3, h4⟩ := h d (List.mem_cons_self ..)
    have hr : ∀ d ∈ ds, _ := fun d hd => h d (List.mem_cons_of_mem _ hd)
    rw [List.length_cons] at hl
    cases hb : b d with
    | false =>
      have ih := lcL_map b y (acc := acc) hr (by omega)
      simp [lcL, h1, h2, hb, h3 hb, ih, List.filter_cons]
    | true =>
      obtain ⟨r, ρ3, h5, h6, h7⟩ := h4 hb
      have ih := lcL_map b y (acc := acc ++ [y d]) hr (by rw [List.length_append]; simp; omega)
      have hlt : acc.length < sizeLine := by omega
      simp [lcL, h1, h2, hb, h5, h6, h7, hlt, ih, List.filter_cons]
@[simp] theorem z_eLc {gf : GF} {vs : List Nat} {src : IF} {tt : BF} {te : EF} {ρ : Env} : eLc gf vs src tt te ρ = (src ρ).bind fun p => (lcL gf vs tt te p.1 (wipeE p.2 vs) []).bind fun q => .ok (.own (.lst q.1), q.2) := rfl
@[simp] theorem z_iData {f : EF} {ρ : Env} : iData f ρ = (f ρ).bind fun p => match p.1 with
  | .fro d => (Res.of d.items).bind fun ds => .ok (ds, p.2)
  | .own d => (Res.of d.items).bind fun ds => .ok (ds, p.2)
  | _ => .bad := rfl
@[simp] theorem z_iEnumD {f : AF} {ρ : Env} : iEnumD f ρ = (f ρ).bind fun p => match p.1 with
  | [.fro d] => (Res.of d.items).bind fun ds => .ok (pairs ds, p.2)
  | _ => .bad := rfl
@[simp] theorem z_items_tup (xs : List D) : (D.tup xs).items = some xs := rfl
@[simp] theorem z_items_lst (xs : List D) : (D.lst xs).items = some xs := rfl
@[simp] theorem z_wipe_nil (ρ : Env) : wipeE ρ [] = ρ := rfl
@[simp] theorem z_wipe_cons (ρ : Env) (v : Nat) (vs : List Nat) : wipeE ρ (v :: vs) = (wipeE ρ vs).set v .un := rfl
@[simp] theorem z_bYes (ρ : Env) : bYes ρ = .ok (true, ρ) := rfl
@[simp] theorem z_take_fro (d : D) : (RV.fro d).take = some d := rfl
@[simp] theorem z_take_own (d : D) : (RV.own d).take = some d := rfl
theorem bls_true : ∀ {ds : List D}, (∀ d ∈ ds, d = .bl true) → bls ds = some (List.replicate ds.length true)
  | [], _ => rfl
  | d :: ds, h => by
    rw [h d (List.mem_cons_self ..), bls, bls_true fun x hx => h x (List.mem_cons_of_mem _ hx)]; rfl
theorem bls_map (f : D → Bool) : ∀ ds : List D, bls (ds.map fun d => .bl (f d)) = some (ds.map f)
  | [] => rfl
  | d :: ds => by rw [List.map_cons, bls, bls_map f ds]; rfl
theorem oAll_map (f : D → Bool) (ds : List D) : oAll (.lst (ds.map fun d => .bl (f d))) = .ok (.fro (.bl (ds.all f))) := by
  simp [oAll, bls_map, List.all_map, Function.comp_def]
theorem oAny_map (f : D → Bool) (ds : List D) : oAny (.lst (ds.map fun d => .bl (f d))) = .ok (.fro (.bl (ds.any f))) := by
  simp [oAny, bls_map, List.any_map, Function.comp_def]
/-! ### the map -/
abbrev Rd := Int × Int × Int
def rd (r : Rd) : D := .tup [.int r.1, .int r.2.1, .int r.2.2]
def k3 (r : Rd) : List Int := [r.1, r.2.1, r.2.2]
structure Pl where
  P : Int
  rs : List Rd
  b : Int
  g : Int
  m : Int
def Pl.ds (p : Pl) : List D := [.int p.P, .tup (p.rs.map rd), .tup [.int p.b, .int p.g], .int p.m]
def Pl.ch (p : Pl) : D := .obj 0 p.ds
def Pl.pl (p : Pl) : D := .tup p.ds
structure RdOk (P : Int) (r : Rd) : Prop where
  a0 : 0 ≤ r.1
  ab : r.1 < r.2.1
  bP : r.2.1 < P
  l1 : 1 ≤ r.2.2
  l9 : r.2.2 ≤ 9
structure Pl.Ok (p : Pl) : Prop where
  P2 : 2 ≤ p.P
  P6 : p.P ≤ 6
  r1 : 1 ≤ p.rs.length
  r8 : p.rs.length ≤ 8
  rd : ∀ r ∈ p.rs, RdOk p.P r
  asc : p.rs.Pairwise fun a b => TS.code 64 (k3 a) < TS.code 64 (k3 b)
  b0 : 0 ≤ p.b
  bP : p.b < p.P
  g0 : 0 ≤ p.g
  gP : p.g < p.P
  bg : p.b ≠ p.g
  m0 : 0 ≤ p.m
  m2 : p.m ≤ 3
theorem m_triple {P : Int} {r : Rd} (h : RdOk P r) : F__is_triple [.fro (.int P), .fro (rd r)] = .ok (.fro (.bl true), [.un, .un]) := by
  have h1 := h.a0; have h2 := h.ab; have h3 := h.bP; have h4 := h.l1; have h5 := h.l9
  simp [F__is_triple, rd, isi_tuple, Isi.of, m_within]
  simp [show (1 : Int) ≤ r.2.1 by omega, show r.2.1 ≤ P - 1 by omega, show 0 ≤ r.1 by omega, show r.1 ≤ r.2.1 - 1 by omega, h4, h5]
theorem tups_rd : ∀ rs : List Rd, D.tups (rs.map rd) = some (rs.map k3)
  | [] => rfl
  | r :: rs => by
    rw [List.map_cons, rd, D.tups, tups_rd rs]; rfl
theorem kD_k3 (r : Rd) : kD (k3 r) = rd r := rfl
theorem ints_L : ∀ l : List Int, D.ints (l.map .int) = some l
  | [] => rfl
  | i :: l => by rw [List.map_cons, D.ints, ints_L l]; rfl
theorem small_of_ok {P : Int} {r : Rd} (h : RdOk P r) (hP : P ≤ 6) : tupB 3 (k3 r) = true := by
  have h1 := h.a0; have h2 := h.ab; have h3 := h.bP; have h4 := h.l1; have h5 := h.l9
  unfold tupB k3
  simp
  omega
theorem m_asc_rd {rs : List Rd} {P : Int} (h1 : 1 ≤ rs.length) (h8 : rs.length ≤ 8) (hP : P ≤ 6) (hr : ∀ r ∈ rs, RdOk P r) (ha : rs.Pairwise fun a b => TS.code 64 (k3 a) < TS.code 64 (k3 b)) : F_ascends [.fro (.tup (rs.map rd))] = .ok (.fro (.bl true), [.un]) := by
  have e : oSSet (.tup (rs.map rd)) = .ok (.own (.lst (rs.map rd))) := by
    match rs, h1 with
    | r :: rs, _ =>
      have hn : D.ints ((r :: rs).map rd) = none := rfl
      have ha2 : ((r :: rs).map k3).Pairwise fun a b => TS.code 64 a < TS.code 64 b := List.pairwise_map.mpr ha
      have hall : ((r :: rs).map k3).all (tupB 3) = true := List.all_eq_true.mpr fun k hk => by
        obtain ⟨q, hq, rfl⟩ := List.mem_map.mp hk
        exact small_of_ok (hr q hq) hP
      show (match D.ints ((r :: rs).map rd) with
        | some ns => (Res.need (decide (ns.length < 64))).bind fun _ => Res.ok (RV.own (.lst ((ascU id ns).map .int)))
        | none => setT ((r :: rs).map rd)) = _
      rw [hn]
      show setT _ = _
      unfold setT
      rw [tups_rd]
      have hh : (((r :: rs).map k3).headD [0]).length = 3 := rfl
      rw [Res.of_some, Res.bind_ok, hh, hall, decide_eq_true (show ((r :: rs).map k3).length < 64 by rw [List.length_map]; omega)]
      show Res.ok _ = _
      rw [ascU_same ha2, List.map_map]; rfl
  have hg : Gd 3 (.lst (rs.map rd)) := .lst fun x hx => by
    obtain ⟨r, _, rfl⟩ := List.mem_map.mp hx
    exact .tup fun y hy => by
      simp at hy
      rcases hy with rfl | rfl | rfl <;> exact .int _
  simp [F_ascends, e, oEq_self hg]
theorem m_asc_L {l : List Int} (hl : l.length < 64) (ha : l.Pairwise (· < ·)) : F_ascends [.fro (.tup (l.map .int))] = .ok (.fro (.bl true), [.un]) := by
  have e : oSSet (.tup (l.map .int)) = .ok (.own (.lst (l.map .int))) := by
    show (match D.ints (l.map .int) with
      | some ns => (Res.need (decide (ns.length < 64))).bind fun _ => Res.ok (RV.own (.lst ((ascU id ns).map .int)))
      | none => setT (l.map .int)) = _
    rw [ints_L]
    show (Res.need (decide (l.length < 64))).bind _ = _
    rw [decide_eq_true hl]
    show Res.ok _ = _
    rw [ascU_same (f := id) ha]
  have hg : Gd 1 (.lst (l.map .int)) := .lst fun x hx => by
    obtain ⟨r, _, rfl⟩ := List.mem_map.mp hx
    exact .int _
  simp [F_ascends, e, oEq_self hg]
end Dt
end

section
set_option Elab.async false
set_option linter.all false
set_option maxRecDepth 100000
set_option maxHeartbeats 4000000
set_option autoImplicit false
namespace Dt
open PySem PySem.Spec PyProof.Rows L2
/-! ### least lengths: rounds over the roads, the mathematics -/
abbrev Vs := List (Option Int)
def oD : Option Int → D
  | none => .non
  | some v => .int v
def gt (b : Vs) (u : Int) : Option Int := (b[u.toNat]?).getD none
def relax (b : Vs) (u v l : Int) : Vs := match gt b u with
  | none => b
  | some d => match gt b v with
    | none => b.set v.toNat (some (d + l))
    | some e => if d + l < e then b.set v.toNat (some (d + l)) else b
theorem relax_len (b : Vs) (u v l : Int) : (relax b u v l).length = b.length := by
  unfold relax
  split
  · rfl
  · split
    · rw [List.length_set]
    · split
      · rw [List.length_set]
      · rfl
def step (w : List Int) (b : Vs) (q : Rd × Nat) : Vs := if w.contains (q.2 : Int) then b else relax (relax b q.1.1 q.1.2.1 q.1.2.2) q.1.2.1 q.1.1 q.1.2.2
theorem step_len (w : List Int) (b : Vs) (q : Rd × Nat) : (step w b q).length = b.length := by
  unfold step
  split
  · rfl
  · rw [relax_len, relax_len]
def round (rs : List Rd) (w : List Int) (b : Vs) : Vs := rs.zipIdx.foldl (step w) b
theorem fold_len (w : List Int) : ∀ (qs : List (Rd × Nat)) (b : Vs), (qs.foldl (step w) b).length = b.length
  | [], _ => rfl
  | q :: qs, b => by rw [List.foldl_cons, fold_len w qs, step_len]
def rounds (rs : List Rd) (w : List Int) : Nat → Vs → Vs
  | 0, b => b
  | n + 1, b => rounds rs w n (round rs w b)
theorem rounds_len (rs : List Rd) (w : List Int) : ∀ (n : Nat) (b : Vs), (rounds rs w n b).length = b.length
  | 0, _ => rfl
  | n + 1, b => by rw [rounds, rounds_len rs w n]; exact fold_len w _ b
def start0 (P b : Int) : Vs := (List.replicate P.toNat none).set b.toNat (some 0)
section
variable {p : Pl}
theorem zip_ok (h : ∀ r ∈ p.rs, RdOk p.P r) : ∀ q ∈ p.rs.zipIdx, RdOk p.P q.1 := fun q hq => h _ (by
  have := List.mem_zipIdx_iff_getElem?.mp hq
  exact List.mem_of_getElem? (by simpa using this))
end
end Dt
end

section
set_option Elab.async false
set_option linter.all false
set_option maxRecDepth 100000
set_option maxHeartbeats 4000000
set_option autoImplicit false
namespace Dt.BF
open Dt
/-! ### one round less is enough -/
def g (b : Vs) (i : Nat) : Option Int := (b[i]?).getD none
def le : Option Int → Option Int → Prop
  | _, none => True
  | none, some _ => False
  | some x, some y => x ≤ y
theorem le_refl : ∀ a : Option Int, le a a
  | none => True.intro
  | some x => Int.le_refl x
theorem le_trans : ∀ {a b c : Option Int}, le a b → le b c → le a c
  | _, _, none, _, _ => True.intro
  | none, none, some _, _, h => h.elim
  | none, some _, some _, h, _ => h.elim
  | some _, none, some _, _, h => h.elim
  | some _, some _, some _, h1, h2 => Int.le_trans h1 h2
theorem le_anti : ∀ {a b : Option Int}, le a b → le b a → a = b
  | none, none, _, _ => rfl
  | none, some _, h, _ => h.elim
  | some _, none, _, h => h.elim
  | some _, some _, h1, h2 => congrArg some (Int.le_antisymm h1 h2)
theorem gt_g (b : Vs) (u : Int) : gt b u = g b u.toNat := rfl
theorem g_set_ne {b : Vs} {i j : Nat} {x : Option Int} (h : j ≠ i) : g (b.set i x) j = g b j := by
  unfold g; rw [List.getElem?_set_ne (Ne.symm h)]
theorem g_set {b : Vs} {i : Nat} {x : Option Int} (h : i < b.length) : g (b.set i x) i = x := by
  unfold g; rw [List.getElem?_set_self h]; rfl
theorem g_out {b : Vs} {i : Nat} (h : b.length ≤ i) : g b i = none := by
  unfold g; rw [List.getElem?_eq_none h]; rfl
abbrev rel (b : Vs) (e : Rd) : Vs := relax b e.1 e.2.1 e.2.2
theorem rel_ne {b : Vs} {e : Rd} {j : Nat} (h : j ≠ e.2.1.toNat) : g (rel b e) j = g b j := by
  unfold rel relax
  split
  · rfl
  · split
    · exact g_set_ne h
    · split
      · exact g_set_ne h
      · rfl
theorem rel_le (b : Vs) (e : Rd) (j : Nat) : le (g (rel b e) j) (g b j) := by
  by_cases h : j = e.2.1.toNat
  · subst h
    unfold rel relax
    split
    · exact le_refl _
    · rename_i d hd
      split
      · rename_i hv
        rw [show g b e.2.1.toNat = none from hv]
        exact True.intro
      · rename_i x hx
        split
        · rename_i hlt
          rw [show g b e.2.1.toNat = some x from hx]
          by_cases hl : e.2.1.toNat < b.length
          · rw [g_set hl]
            exact Int.le_of_lt hlt
          · have : g b e.2.1.toNat = none := g_out (Nat.le_of_not_lt hl)
            rw [show g b e.2.1.toNat = some x from hx] at this
            cases this
        · exact le_refl _
  · rw [rel_ne h]; exact le_refl _
theorem rel_hit {b : Vs} {e : Rd} {z : Int} (hu : g b e.1.toNat = some z) (hv : e.2.1.toNat < b.length) : le (g (rel b e) e.2.1.toNat) (some (z + e.2.2)) := by
  unfold rel relax
  rw [show gt b e.1 = some z from hu]
  dsimp only
  split
  · rw [g_set hv]; exact Int.le_refl _
  · rename_i x hx
    split
    · rw [g_set hv]; exact Int.le_refl _
    · rename_i hlt
      rw [show g b e.2.1.toNat = some x from hx]
      show x ≤ z + e.2.2
      omega
/-- what a relaxation may give -/
theorem rel_new {b : Vs} {e : Rd} (j : Nat) : g (rel b e) j = g b j ∨ (j = e.2.1.toNat ∧ ∃ z, g b e.1.toNat = some z ∧ g (rel b e) j = some (z + e.2.2)) := by
  by_cases h : j = e.2.1.toNat
  · subst h
    by_cases hl : e.2.1.toNat < b.length
    · unfold rel relax
      split
      · exact .inl rfl
      · rename_i d hd
        split
        · exact .inr ⟨rfl, d, hd, g_set hl⟩
        · split
          · exact .inr ⟨rfl, d, hd, g_set hl⟩
          · exact .inl rfl
    · have h1 : g b e.2.1.toNat = none := g_out (Nat.le_of_not_lt hl)
      have h2 : g (rel b e) e.2.1.toNat = none := g_out (by rw [rel, relax_len]; exact Nat.le_of_not_lt hl)
      exact .inl (h2.trans h1.symm)
  · exact .inl (rel_ne h)
theorem fold_le : ∀ (E : List Rd) (b : Vs) (j : Nat), le (g (E.foldl rel b) j) (g b j)
  | [], b, j => le_refl _
  | e :: E, b, j => le_trans (fold_le E (rel b e) j) (rel_le b e j)
theorem foldr_len : ∀ (E : List Rd) (b : Vs), (E.foldl rel b).length = b.length
  | [], _ => rfl
  | e :: E, b => by rw [List.foldl_cons, foldr_len E]; exact relax_len _ _ _ _
def it (E : List Rd) : Nat → Vs → Vs
  | 0, b => b
  | k + 1, b => it E k (E.foldl rel b)
theorem it_succ (E : List Rd) : ∀ (k : Nat) (b : Vs), it E (k + 1) b = E.foldl rel (it E k b)
  | 0, _ => rfl
  | k + 1, b => by rw [it, it_succ E k]; rfl
theorem it_len (E : List Rd) : ∀ (k : Nat) (b : Vs), (it E k b).length = b.length
  | 0, _ => rfl
  | k + 1, b => by rw [it, it_len E k, foldr_len]
theorem it_le (E : List Rd) (b : Vs) (j : Nat) : ∀ {k m : Nat}, k ≤ m → le (g (it E m b) j) (g (it E k b) j)
  | k, m, h => by
    induction h with
    | refl => exact le_refl _
    | step _ ih => rw [it_succ]; exact le_trans (fold_le E _ j) ih
/-- a falling sequence of values stands still in the end -/
theorem stab {f : Nat → Option Int} (hf : ∀ k m, k ≤ m → le (f m) (f k)) (h0 : ∀ k x, f k = some x → 0 ≤ x) : ∃ K, ∀ k, K ≤ k → f k = f K := by
  have aux : ∀ (n k0 : Nat) (x : Int), f k0 = some x → x.toNat ≤ n → ∃ K, ∀ k, K ≤ k → f k = f K := by
    intro n
    induction n with
    | zero =>
      intro k0 x hx hn
      refine ⟨k0, fun k hk => ?_⟩
      have h1 := hf k0 k hk
      rw [hx] at h1 ⊢
      cases hy : f k with
      | none => rw [hy] at h1; exact h1.elim
      | some y =>
        rw [hy] at h1
        have h1 : y ≤ x := h1
        have := h0 k y hy
        congr 1; omega
    | succ n ih =>
      intro k0 x hx hn
      by_cases h : ∀ k, k0 ≤ k → f k = f k0
      · exact ⟨k0, h⟩
      · obtain ⟨k, hk⟩ := Classical.not_forall.mp h
        obtain ⟨hk, hne⟩ := Classical.not_imp.mp hk
        have h1 := hf k0 k hk
        rw [hx] at h1 hne
        cases hy : f k with
        | none => rw [hy] at h1; exact h1.elim
        | some y =>
          rw [hy] at h1 hne
          have h1 : y ≤ x := h1
          have h2 := h0 k y hy
          refine ih k y hy ?_
          have : y ≠ x := fun z => hne (by rw [z])
          omega
  by_cases h : ∀ k, f k = none
  · exact ⟨0, fun k _ => by rw [h k, h 0]⟩
  · obtain ⟨k0, hk⟩ := Classical.not_forall.mp h
    cases hx : f k0 with
    | none => exact absurd hx hk
    | some x => exact aux _ k0 x hx (Nat.le_refl _)
/-- the invariant: values at least 0; what is not the start has a road that made it -/
structure Inv (E : List Rd) (s : Nat) (b : Vs) : Prop where
  nn : ∀ j x, g b j = some x → 0 ≤ x
  st : g b s = some 0
  pre : ∀ j y, j ≠ s → g b j = some y → ∃ e ∈ E, e.2.1.toNat = j ∧ ∃ z, g b e.1.toNat = some z ∧ z + e.2.2 ≤ y
theorem le_some {a : Option Int} {z : Int} (h : le a (some z)) : ∃ x, a = some x ∧ x ≤ z := by
  cases a with
  | none => exact h.elim
  | some x => exact ⟨x, rfl, h⟩
theorem Inv.rel {E : List Rd} {s : Nat} {b : Vs} (I : Inv E s b) {e : Rd} (he : e ∈ E) (hl : 1 ≤ e.2.2) : Inv E s (BF.rel b e) := by
  have hs : ∀ j x, g (BF.rel b e) j = some x → 0 ≤ x := fun j x hx => by
    rcases rel_new (b := b) (e := e) j with h | ⟨_, z, h1, h2⟩
    · exact I.nn j x (h ▸ hx)
    · rw [h2] at hx; cases hx
      have := I.nn _ _ h1
      omega
  refine ⟨hs, ?_, fun j y hj hy => ?_⟩
  · have h := rel_le b e s
    rw [I.st] at h
    obtain ⟨x, h1, h2⟩ := le_some h
    have := hs s x h1
    rw [h1]; congr 1; omega
  · have mono : ∀ {k : Nat} {z : Int}, g b k = some z → ∃ z', g (BF.rel b e) k = some z' ∧ z' ≤ z := fun {k z} hz => by
      have h := rel_le b e k
      rw [hz] at h
      exact le_some h
    rcases rel_new (b := b) (e := e) j with h | ⟨rfl, z, h1, h2⟩
    · obtain ⟨e', he', h3, z, h4, h5⟩ := I.pre j y hj (h ▸ hy)
      obtain ⟨z', h6, h7⟩ := mono h4
      exact ⟨e', he', h3, z', h6, by omega⟩
    · rw [h2] at hy; cases hy
      obtain ⟨z', h6, h7⟩ := mono h1
      exact ⟨e, he, rfl, z', h6, by omega⟩
theorem Inv.fold {E : List Rd} {s : Nat} (hl : ∀ e ∈ E, 1 ≤ e.2.2) : ∀ (F : List Rd) {b : Vs}, (∀ e ∈ F, e ∈ E) → Inv E s b → Inv E s (F.foldl BF.rel b)
  | [], _, _, I => I
  | e :: F, b, h, I => Inv.fold hl F (fun e' he' => h e' (List.mem_cons_of_mem _ he')) (I.rel (h e (List.mem_cons_self ..)) (hl e (h e (List.mem_cons_self ..))))
theorem Inv.it {E : List Rd} {s : Nat} (hl : ∀ e ∈ E, 1 ≤ e.2.2) : ∀ (k : Nat) {b : Vs}, Inv E s b → Inv E s (BF.it E k b)
  | 0, _, I => I
  | k + 1, b, I => Inv.it hl k (Inv.fold hl E (fun _ h => h) I)
theorem filter_lt {p q : Nat → Bool} (h : ∀ x, p x = true → q x = true) : ∀ {l : List Nat} {x : Nat}, x ∈ l → q x = true → p x = false → (l.filter p).length + 1 ≤ (l.filter q).length
  | y :: l, x, hx, h1, h2 => by
    have mono : ∀ m : List Nat, (m.filter p).length ≤ (m.filter q).length := fun m => by
      induction m with
      | nil => exact Nat.le_refl _
      | cons z m ih =>
        rw [List.filter_cons, List.filter_cons]
        cases hp : p z with
        | true => rw [h z hp]; simpa using ih
        | false => cases q z <;> simp <;> omega
    rw [List.filter_cons, List.filter_cons]
    rcases List.mem_cons.mp hx with rfl | hx
    · rw [h1, h2]
      have := mono l
      simp; omega
    · have ih := filter_lt h hx h1 h2
      cases hp : p y with
      | true => rw [h y hp]; simp; omega
      | false => cases q y <;> simp <;> omega
theorem least {p : Nat → Prop} (f : Nat → Nat) : ∀ (n x : Nat), p x → f x ≤ n → ∃ y, p y ∧ ∀ z, p z → f y ≤ f z
  | 0, x, hx, hn => ⟨x, hx, fun z _ => by omega⟩
  | n + 1, x, hx, hn => by
    by_cases h : ∃ z, p z ∧ f z < f x
    · obtain ⟨z, hz, hlt⟩ := h
      exact least f n z hz (by omega)
    · exact ⟨x, hx, fun z hz => Nat.le_of_not_lt fun q => h ⟨z, hz, q⟩⟩
/-- after as many rounds as there are places, less one, nothing changes -/
theorem still {E : List Rd} {s n : Nat} {b : Vs} (hn : b.length = n) (h1 : 1 ≤ n) (hs : s < n) (hE : ∀ e ∈ E, e.2.1.toNat < n ∧ 1 ≤ e.2.2) (I : Inv E s b) : E.foldl rel (it E (n - 1) b) = it E (n - 1) b := by
  have hl : ∀ e ∈ E, 1 ≤ e.2.2 := fun e he => (hE e he).2
  have Ik : ∀ k, Inv E s (it E k b) := fun k => Inv.it hl k I
  -- a common end
  have key : ∀ j, ∃ K, ∀ k, K ≤ k → g (it E k b) j = g (it E K b) j := fun j => stab (f := fun k => g (it E k b) j) (fun k m h => it_le E b j h) fun k x hx => (Ik k).nn j x hx
  obtain ⟨K, hK⟩ : ∃ K, ∀ j, j < n → ∀ k, K ≤ k → g (it E k b) j = g (it E K b) j := by
    clear hs h1
    have : ∀ m, ∃ K, ∀ j, j < m → ∀ k, K ≤ k → g (it E k b) j = g (it E K b) j := by
      intro m
      induction m with
      | zero => exact ⟨0, fun j hj => absurd hj (Nat.not_lt_zero _)⟩
      | succ m ih =>
        obtain ⟨K1, hK1⟩ := ih
        obtain ⟨K2, hK2⟩ := key m
        refine ⟨max K1 K2, fun j hj k hk => ?_⟩
        by_cases hm : j = m
        · subst hm
          rw [hK2 k (by omega), hK2 (max K1 K2) (by omega)]
        · rw [hK1 j (by omega) k (by omega), hK1 j (by omega) (max K1 K2) (by omega)]
    exact this n
  let d := it E K b
  have dle : ∀ k j, j < n → le (g d j) (g (it E k b) j) := fun k j hj => by
    rw [← hK j hj (max K k) (by omega)]
    exact it_le E b j (by omega)
  have ext : ∀ {c c' : Vs}, c.length = n → c'.length = n → (∀ j, j < n → g c j = g c' j) → c = c' := fun {c c'} l1 l2 h => by
    apply List.ext_getElem?
    intro j
    by_cases hj : j < n
    · have := h j hj
      unfold g at this
      rw [List.getElem?_eq_getElem (by omega), List.getElem?_eq_getElem (by omega)] at this ⊢
      simpa using this
    · rw [List.getElem?_eq_none (by omega), List.getElem?_eq_none (by omega)]
  -- how many have their last value
  let S := fun k => ((List.range n).filter fun j => decide (g (it E k b) j = g d j)).length
  have grow : ∀ k, (∃ j, j < n ∧ g (it E k b) j ≠ g d j) → S k + 1 ≤ S (k + 1) := by
    intro k ⟨j0, hj0, hne0⟩
    obtain ⟨v, ⟨hv, hvne⟩, hmin⟩ := least (p := fun j => j < n ∧ g (it E k b) j ≠ g d j) (fun j => ((g d j).getD 0).toNat) _ j0 ⟨hj0, hne0⟩ (Nat.le_refl _)
    have hdv : ∃ y, g d v = some y := by
      cases h : g d v with
      | some y => exact ⟨y, rfl⟩
      | none =>
        have := dle k v hv
        rw [h] at this
        cases hc : g (it E k b) v with
        | none => exact absurd (hc.trans h.symm) hvne
        | some x => rw [hc] at this; exact this.elim
    obtain ⟨y, hy⟩ := hdv
    have hvs : v ≠ s := fun z => hvne (by rw [z, (Ik k).st, (Ik K).st])
    obtain ⟨e, he, hev, z, hz, hzy⟩ := (Ik K).pre v y hvs hy
    have hel := hE e he
    have hzn := (Ik K).nn _ _ hz
    have hyn := (Ik K).nn _ _ hy
    -- the place behind has its last value
    have hu : g (it E k b) e.1.toNat = some z := by
      by_cases hun : e.1.toNat < n
      · apply Classical.byContradiction
        intro hne
        have hm := hmin e.1.toNat ⟨hun, fun q => hne (q.trans hz)⟩
        have hy' : g d v = some y := hy
        have hz' : g d e.1.toNat = some z := hz
        simp only [hy', hz', Option.getD_some] at hm
        omega
      · have : g d e.1.toNat = none := g_out (by show (it E K b).length ≤ _; rw [it_len]; omega)
        rw [show g d e.1.toNat = some z from hz] at this
        cases this
    -- the round passes the road
    obtain ⟨E1, E2, hsplit⟩ := List.append_of_mem he
    have hst : g (it E (k + 1) b) v = g d v := by
      refine le_anti ?_ (dle (k + 1) v hv)
      have hf : it E (k + 1) b = E2.foldl rel (rel (E1.foldl rel (it E k b)) e) := by
        rw [it_succ]
        conv => lhs; rw [show E.foldl rel (it E k b) = (E1 ++ e :: E2).foldl rel (it E k b) by rw [← hsplit]]
        rw [List.foldl_append, List.foldl_cons]
      rw [hf]
      refine le_trans (fold_le E2 _ v) ?_
      have hmid : g (E1.foldl rel (it E k b)) e.1.toNat = some z := by
        have a1 := fold_le E1 (it E k b) e.1.toNat
        rw [hu] at a1
        have a2 : le (g (it E (k + 1) b) e.1.toNat) (g (E1.foldl rel (it E k b)) e.1.toNat) := by
          rw [it_succ, hsplit, List.foldl_append]
          exact fold_le (e :: E2) _ _
        by_cases hun : e.1.toNat < n
        · have a3 := dle (k + 1) e.1.toNat hun
          rw [show g d e.1.toNat = some z from hz] at a3
          exact le_anti a1 (le_trans a3 a2)
        · have : g (it E k b) e.1.toNat = none := g_out (by rw [it_len]; omega)
          rw [hu] at this; cases this
      have hh := rel_hit (b := E1.foldl rel (it E k b)) (e := e) hmid (by rw [foldr_len, it_len]; omega)
      rw [hev] at hh
      rw [show g d v = some y from hy]
      exact le_trans hh (show z + e.2.2 ≤ y from hzy)
    refine filter_lt (fun j hj => ?_) (List.mem_range.mpr hv) (decide_eq_true hst) (decide_eq_false hvne)
    have hj := of_decide_eq_true hj
    by_cases hjn : j < n
    · refine decide_eq_true (le_anti ?_ (dle (k + 1) j hjn))
      rw [← hj]
      exact it_le E b j (Nat.le_succ k)
    · refine decide_eq_true ?_
      rw [g_out (by rw [it_len]; omega), g_out (by show (it E K b).length ≤ _; rw [it_len]; omega)]
  have cnt : ∀ k, (∀ j, j < n → g (it E k b) j = g d j) ∨ k + 1 ≤ S k := by
    intro k
    induction k with
    | zero =>
      right
      have : s ∈ (List.range n).filter fun j => decide (g (it E 0 b) j = g d j) := List.mem_filter.mpr ⟨List.mem_range.mpr hs, decide_eq_true (by rw [(Ik 0).st]; exact (Ik K).st.symm)⟩
      exact List.length_pos_of_mem this
    | succ k ih =>
      by_cases h : ∃ j, j < n ∧ g (it E k b) j ≠ g d j
      · rcases ih with ih | ih
        · obtain ⟨j, hj, hne⟩ := h
          exact absurd (ih j hj) hne
        · right
          have := grow k h
          omega
      · left
        intro j hj
        have he : g (it E k b) j = g d j := Classical.byContradiction fun q => h ⟨j, hj, q⟩
        refine le_anti ?_ (dle (k + 1) j hj)
        rw [← he]
        exact it_le E b j (Nat.le_succ k)
  have all : ∀ j, j < n → g (it E (n - 1) b) j = g d j := by
    rcases cnt (n - 1) with h | h
    · exact h
    · intro j hj
      apply Classical.byContradiction
      intro hne
      have hlt : S (n - 1) + 1 ≤ ((List.range n).filter fun _ => true).length := filter_lt (fun _ _ => rfl) (List.mem_range.mpr hj) rfl (decide_eq_false hne)
      have : ((List.range n).filter fun _ => true).length ≤ n := by
        have := List.length_filter_le (fun _ => true) (List.range n)
        rwa [List.length_range] at this
      omega
  have ed : it E (n - 1) b = d := ext (by rw [it_len]; exact hn) (by show (it E K b).length = n; rw [it_len]; exact hn) all
  rw [ed]
  refine ext (by rw [foldr_len]; show (it E K b).length = n; rw [it_len]; exact hn) (by show (it E K b).length = n; rw [it_len]; exact hn) fun j hj => ?_
  have := hK j hj (K + 1) (by omega)
  rw [it_succ] at this
  exact this
end Dt.BF
end

section
set_option Elab.async false
set_option linter.all false
set_option maxRecDepth 100000
set_option maxHeartbeats 4000000
set_option autoImplicit false
namespace Dt
open PySem PySem.Spec PyProof.Rows L2
def edges (rs : List Rd) (w : List Int) : List Rd := rs.zipIdx.flatMap fun q => if w.contains (q.2 : Int) then [] else [(q.1.1, q.1.2.1, q.1.2.2), (q.1.2.1, q.1.1, q.1.2.2)]
theorem step_fold (w : List Int) : ∀ (qs : List (Rd × Nat)) (b : Vs), qs.foldl (step w) b = (qs.flatMap fun q => if w.contains (q.2 : Int) then [] else [(q.1.1, q.1.2.1, q.1.2.2), (q.1.2.1, q.1.1, q.1.2.2)]).foldl BF.rel b
  | [], _ => rfl
  | q :: qs, b => by
    rw [List.foldl_cons, List.flatMap_cons, List.foldl_append, step_fold w qs]
    congr 1
    unfold step
    split <;> rfl
theorem rounds_it (rs : List Rd) (w : List Int) : ∀ (n : Nat) (b : Vs), rounds rs w n b = BF.it (edges rs w) n b
  | 0, _ => rfl
  | n + 1, b => by
    rw [rounds, rounds_it rs w n]
    show BF.it _ n (round rs w b) = BF.it _ n _
    rw [round, step_fold]; rfl
section
variable {p : Pl} {w : List Int}
theorem rounds_still {beg : Int} (hP : 2 ≤ p.P) (h : ∀ r ∈ p.rs, RdOk p.P r) (b0 : 0 ≤ beg) (b1 : beg < p.P) : rounds p.rs w p.P.toNat (start0 p.P beg) = rounds p.rs w (p.P - 1).toNat (start0 p.P beg) := by
  have hlen : (start0 p.P beg).length = p.P.toNat := by
    unfold start0
    rw [List.length_set, List.length_replicate]
  have en : p.P.toNat = (p.P - 1).toNat + 1 := by omega
  have en2 : p.P.toNat - 1 = (p.P - 1).toNat := by omega
  have hE : ∀ e ∈ edges p.rs w, e.2.1.toNat < p.P.toNat ∧ 1 ≤ e.2.2 := fun e he => by
    obtain ⟨q, hq, he⟩ := List.mem_flatMap.mp he
    have hr := zip_ok h q hq
    have h1 := hr.a0; have h2 := hr.ab; have h3 := hr.bP; have h4 := hr.l1
    split at he
    · cases he
    · simp at he
      rcases he with rfl | rfl
      · exact ⟨by show q.1.2.1.toNat < _; omega, h4⟩
      · exact ⟨by show q.1.1.toNat < _; omega, h4⟩
  have hg : ∀ j, BF.g (start0 p.P beg) j = if j = beg.toNat then some 0 else none := fun j => by
    unfold start0
    by_cases hj : j = beg.toNat
    · subst hj
      rw [BF.g_set (by rw [List.length_replicate]; omega), if_pos rfl]
    · rw [BF.g_set_ne hj, if_neg hj]
      unfold BF.g
      rw [List.getElem?_replicate]
      split <;> rfl
  have I : BF.Inv (edges p.rs w) beg.toNat (start0 p.P beg) := by
    refine ⟨fun j x hx => ?_, ?_, fun j y hj hy => ?_⟩
    · rw [hg] at hx
      split at hx
      · cases hx; exact Int.le_refl _
      · cases hx
    · rw [hg, if_pos rfl]
    · rw [hg, if_neg hj] at hy; cases hy
  have := BF.still (E := edges p.rs w) (s := beg.toNat) hlen (by omega) (by omega) hE I
  rw [en2] at this
  rw [rounds_it, rounds_it, en, BF.it_succ]
  exact this
end
end Dt
end

section
set_option Elab.async false
set_option linter.all false
set_option maxRecDepth 100000
set_option maxHeartbeats 4000000
set_option autoImplicit false
namespace Dt
open PySem PySem.Spec PyProof.Rows L2

/-! ### ways, and that the rounds find the least of them -/
inductive Path (E : List Rd) : Nat → Nat → Int → Prop
  | nil (j : Nat) : Path E j j 0
  | cons {e : Rd} {j : Nat} {z : Int} : e ∈ E → Path E e.2.1.toNat j z → Path E e.1.toNat j (e.2.2 + z)
theorem Path.snoc {E : List Rd} {i j : Nat} {z : Int} (h : Path E i j z) : ∀ {e : Rd}, e ∈ E → e.1.toNat = j → Path E i e.2.1.toNat (z + e.2.2) := by
  induction h with
  | nil j =>
    intro e he ej
    subst ej
    have := Path.cons he (.nil _)
    rw [Int.add_zero] at this
    rw [Int.zero_add]; exact this
  | cons h1 _ ih =>
    intro e he ej
    rw [Int.add_assoc]
    exact .cons h1 (ih he ej)
theorem Path.mono {E E' : List Rd} (h : ∀ e ∈ E, e ∈ E') {i j : Nat} {z : Int} (p : Path E i j z) : Path E' i j z := by
  induction p with
  | nil j => exact .nil j
  | cons h1 _ ih => exact .cons (h _ h1) ih
namespace BF
theorem sound_rel {E : List Rd} {s : Nat} {b : Vs} (h : ∀ j y, g b j = some y → Path E s j y) {e : Rd} (he : e ∈ E) : ∀ j y, g (rel b e) j = some y → Path E s j y := fun j y hy => by
  rcases rel_new (b := b) (e := e) j with q | ⟨rfl, z, h1, h2⟩
  · exact h j y (q ▸ hy)
  · rw [h2] at hy; cases hy
    exact (h _ _ h1).snoc he rfl
theorem sound_fold {E : List Rd} {s : Nat} : ∀ (F : List Rd) {b : Vs}, (∀ e ∈ F, e ∈ E) → (∀ j y, g b j = some y → Path E s j y) → ∀ j y, g (F.foldl rel b) j = some y → Path E s j y
  | [], _, _, h => h
  | e :: F, b, hF, h => sound_fold F (fun e' he' => hF e' (List.mem_cons_of_mem _ he')) (sound_rel h (hF e (List.mem_cons_self ..)))
theorem sound_it {E : List Rd} {s : Nat} : ∀ (k : Nat) {b : Vs}, (∀ j y, g b j = some y → Path E s j y) → ∀ j y, g (it E k b) j = some y → Path E s j y
  | 0, _, h => h
  | k + 1, b, h => sound_it k (sound_fold E (fun _ h => h) h)
theorem fixed : ∀ {F : List Rd} {b : Vs}, (∀ j, g (F.foldl rel b) j = g b j) → ∀ e ∈ F, ∀ z, g b e.1.toNat = some z → e.2.1.toNat < b.length → le (g b e.2.1.toNat) (some (z + e.2.2))
  | e' :: F, b, h, e, he, z, hz, hv => by
    have s : ∀ j, g (rel b e') j = g b j := fun j => le_anti (rel_le b e' j) (by
      have q := fold_le F (rel b e') j
      rw [show g (F.foldl rel (rel b e')) j = g b j from h j] at q
      exact q)
    rcases List.mem_cons.mp he with rfl | he
    · have := rel_hit hz hv
      rw [s] at this; exact this
    · have := fixed (F := F) (b := rel b e') (fun j => (h j).trans (s j).symm) e he z (by rw [s]; exact hz) (by rw [relax_len]; exact hv)
      rw [s] at this; exact this
theorem complete {E : List Rd} {b : Vs} (h : ∀ j, g (E.foldl rel b) j = g b j) (hE : ∀ e ∈ E, e.2.1.toNat < b.length) {i j : Nat} {z : Int} (p : Path E i j z) : ∀ y, g b i = some y → le (g b j) (some (y + z)) := by
  induction p with
  | nil j => intro y hy; rw [hy, Int.add_zero]; exact Int.le_refl _
  | @cons e j z he _ ih =>
    intro y hy
    obtain ⟨y', h1, h2⟩ := le_some (fixed h e he y hy (hE e he))
    have := ih y' h1
    refine le_trans this ?_
    show y' + z ≤ y + (e.2.2 + z)
    omega
end BF
section
variable {p : Pl} {w : List Int}
theorem edges_ok (h : ∀ r ∈ p.rs, RdOk p.P r) : ∀ e ∈ edges p.rs w, e.1.toNat < p.P.toNat ∧ e.2.1.toNat < p.P.toNat ∧ 1 ≤ e.2.2 ∧ 0 ≤ e.1 ∧ 0 ≤ e.2.1 := fun e he => by
  obtain ⟨q, hq, he⟩ := List.mem_flatMap.mp he
  have hr := zip_ok h q hq
  have h1 := hr.a0; have h2 := hr.ab; have h3 := hr.bP; have h4 := hr.l1
  split at he
  · cases he
  · simp at he
    rcases he with rfl | rfl
    · exact ⟨by show q.1.1.toNat < _; omega, by show q.1.2.1.toNat < _; omega, h4, h1, by show 0 ≤ q.1.2.1; omega⟩
    · exact ⟨by show q.1.2.1.toNat < _; omega, by show q.1.1.toNat < _; omega, h4, by show 0 ≤ q.1.2.1; omega, h1⟩
/-- the least length of a way from x to the goal without the roads w -/
def lenTo (p : Pl) (w : List Int) (x : Int) : Option Int := gt (rounds p.rs w (p.P - 1).toNat (start0 p.P x)) p.g
theorem start0_len (P x : Int) : (start0 P x).length = P.toNat := by
  unfold start0
  rw [List.length_set, List.length_replicate]
theorem start0_g {P x : Int} (x0 : 0 ≤ x) (xP : x < P) (j : Nat) : BF.g (start0 P x) j = if j = x.toNat then some 0 else none := by
  unfold start0
  by_cases hj : j = x.toNat
  · subst hj
    rw [BF.g_set (by rw [List.length_replicate]; omega), if_pos rfl]
  · rw [BF.g_set_ne hj, if_neg hj]
    unfold BF.g
    rw [List.getElem?_replicate]
    split <;> rfl
theorem start0_inv {E : List Rd} {P x : Int} (x0 : 0 ≤ x) (xP : x < P) : BF.Inv E x.toNat (start0 P x) := by
  refine ⟨fun j y hy => ?_, ?_, fun j y hj hy => ?_⟩
  · rw [start0_g x0 xP] at hy
    split at hy
    · cases hy; exact Int.le_refl _
    · cases hy
  · rw [start0_g x0 xP, if_pos rfl]
  · rw [start0_g x0 xP, if_neg hj] at hy; cases hy
theorem lenTo_path (h : ∀ r ∈ p.rs, RdOk p.P r) {x : Int} (x0 : 0 ≤ x) (xP : x < p.P) {d : Int} (e : lenTo p w x = some d) : Path (edges p.rs w) x.toNat p.g.toNat d ∧ 0 ≤ d := by
  unfold lenTo at e
  rw [rounds_it] at e
  refine ⟨BF.sound_it (E := edges p.rs w) _ (fun j y hy => ?_) _ _ e, ?_⟩
  · rw [start0_g x0 xP] at hy
    split at hy
    · cases hy; subst_vars; exact .nil _
    · cases hy
  · exact (BF.Inv.it (fun e he => (edges_ok h e he).2.2.1) _ (start0_inv x0 xP)).nn _ _ e
theorem lenTo_le (hP : 2 ≤ p.P) (h : ∀ r ∈ p.rs, RdOk p.P r) {x : Int} (x0 : 0 ≤ x) (xP : x < p.P) {z : Int} (q : Path (edges p.rs w) x.toNat p.g.toNat z) : BF.le (lenTo p w x) (some z) := by
  have st := BF.still (E := edges p.rs w) (s := x.toNat) (start0_len p.P x) (by omega) (by omega) (fun e he => ⟨(edges_ok h e he).2.1, (edges_ok h e he).2.2.1⟩) (start0_inv x0 xP)
  rw [show p.P.toNat - 1 = (p.P - 1).toNat by omega] at st
  have hs := (BF.Inv.it (fun e he => (edges_ok (w := w) h e he).2.2.1) (p.P - 1).toNat (start0_inv (E := edges p.rs w) x0 xP)).st
  have c := BF.complete (E := edges p.rs w) (b := BF.it (edges p.rs w) (p.P - 1).toNat (start0 p.P x)) (fun j => by rw [st]) (fun e he => by rw [BF.it_len, start0_len]; exact (edges_ok h e he).2.1) q 0 hs
  unfold lenTo
  rw [rounds_it, BF.gt_g]
  rw [Int.zero_add] at c
  exact c
theorem lenTo_goal (hP : 2 ≤ p.P) (h : ∀ r ∈ p.rs, RdOk p.P r) (g0 : 0 ≤ p.g) (gP : p.g < p.P) : lenTo p w p.g = some 0 := by
  obtain ⟨d, h1, h2⟩ := BF.le_some (lenTo_le (w := w) hP h g0 gP (.nil _))
  have := (lenTo_path h g0 gP h1).2
  rw [h1]; congr 1; omega
/-- a road more -/
theorem lenTo_road (hP : 2 ≤ p.P) (h : ∀ r ∈ p.rs, RdOk p.P r) {e : Rd} (he : e ∈ edges p.rs w) {d : Int} (hd : lenTo p w e.2.1 = some d) : BF.le (lenTo p w e.1) (some (e.2.2 + d)) := by
  obtain ⟨a1, a2, a3, a4, a5⟩ := edges_ok h e he
  exact lenTo_le hP h a4 (by omega) (.cons he (lenTo_path h a5 (by omega) hd).1)
/-- the first road of a least way -/
theorem lenTo_first (hP : 2 ≤ p.P) (h : ∀ r ∈ p.rs, RdOk p.P r) (g0 : 0 ≤ p.g) {x : Int} (x0 : 0 ≤ x) (xP : x < p.P) (hx : x ≠ p.g) {d : Int} (hd : lenTo p w x = some d) : ∃ e ∈ edges p.rs w, e.1 = x ∧ ∃ d', lenTo p w e.2.1 = some d' ∧ e.2.2 + d' = d := by
  obtain ⟨q, d0⟩ := lenTo_path h x0 xP hd
  generalize hi : x.toNat = i at q
  generalize hj : p.g.toNat = j at q
  cases q with
  | nil => exact absurd (show x = p.g by omega) hx
  | @cons e _ z he q =>
    obtain ⟨a1, a2, a3, a4, a5⟩ := edges_ok h e he
    subst hj
    obtain ⟨d', h1, h2⟩ := BF.le_some (lenTo_le hP h a5 (by omega) q)
    have ex : e.1 = x := by omega
    have := lenTo_road hP h he h1
    rw [ex, hd] at this
    have : e.2.2 + z ≤ e.2.2 + d' := this
    exact ⟨e, he, ex, d', h1, by omega⟩
/-- fewer barred roads -/
theorem edges_mono {w w' : List Int} (hw : ∀ r, r ∈ w → r ∈ w') : ∀ e ∈ edges p.rs w', e ∈ edges p.rs w := fun e he => by
  obtain ⟨q, hq, he⟩ := List.mem_flatMap.mp he
  refine List.mem_flatMap.mpr ⟨q, hq, ?_⟩
  split at he
  · cases he
  · rename_i n
    rw [if_neg fun z => n (by rw [List.contains_iff_mem] at z ⊢; exact hw _ z)]
    exact he
theorem lenTo_mono (hP : 2 ≤ p.P) (h : ∀ r ∈ p.rs, RdOk p.P r) {x : Int} (x0 : 0 ≤ x) (xP : x < p.P) {w w' : List Int} (hw : ∀ r, r ∈ w → r ∈ w') : BF.le (lenTo p w x) (lenTo p w' x) := by
  cases e : lenTo p w' x with
  | none => exact True.intro
  | some d => exact lenTo_le hP h x0 xP ((lenTo_path h x0 xP e).1.mono (edges_mono hw))
theorem edges_same {w w' : List Int} (hw : ∀ r, r ∈ w ↔ r ∈ w') : edges p.rs w = edges p.rs w' := by
  unfold edges
  congr 1
  funext q
  have : w.contains (q.2 : Int) = w'.contains (q.2 : Int) := by
    rw [Bool.eq_iff_iff, List.contains_iff_mem, List.contains_iff_mem]; exact hw _
  rw [this]
theorem lenTo_same {w w' : List Int} (hw : ∀ r, r ∈ w ↔ r ∈ w') (x : Int) : lenTo p w x = lenTo p w' x := by
  unfold lenTo
  rw [rounds_it, rounds_it, edges_same hw]
/-- which roads are edges -/
theorem mem_edges {e : Rd} : e ∈ edges p.rs w ↔ ∃ (i : Nat) (q : Rd), p.rs[i]? = some q ∧ (i : Int) ∉ w ∧ (e = (q.1, q.2.1, q.2.2) ∨ e = (q.2.1, q.1, q.2.2)) := by
  constructor
  · intro he
    obtain ⟨⟨q, i⟩, hq, he⟩ := List.mem_flatMap.mp he
    have := List.mem_zipIdx_iff_getElem?.mp hq
    split at he
    · cases he
    · rename_i n
      refine ⟨i, q, by simpa using this, fun z => n (by rw [List.contains_iff_mem]; exact z), by simpa using he⟩
  · rintro ⟨i, q, h1, h2, h3⟩
    refine List.mem_flatMap.mpr ⟨(q, i), List.mem_zipIdx_iff_getElem?.mpr (by simpa using h1), ?_⟩
    rw [if_neg fun z => h2 (by rw [List.contains_iff_mem] at z; exact z)]
    simpa using h3
end
end Dt
end

section
set_option Elab.async false
set_option linter.all false
set_option maxRecDepth 100000
set_option maxHeartbeats 4000000
set_option autoImplicit false
namespace Dt
open PySem PySem.Spec PyProof.Rows L2
theorem sl8 {n : Nat} (h : n ≤ 1000) : n ≤ sizeLine := Nat.le_trans h (by decide)
/-! ### the roads at a place -/
abbrev Li (l : List Int) : List D := l.map .int
def atR (rs : List Rd) (x : Int) : List Int := (rs.zipIdx.filter fun q => q.1.1 == x || q.1.2.1 == x).map fun q => (q.2 : Int)
def bAt (x : Int) : D → Bool
  | .tup [.int _, .tup [.int a, .int b, .int _]] => a == x || b == x
  | _ => false
def yFst : D → D
  | .tup (d :: _) => d
  | d => d
theorem pairs_map (f : Rd → D) (rs : List Rd) : pairs (rs.map f) = rs.zipIdx.map fun q => .tup [.int (q.2 : Nat), f q.1] := by
  unfold pairs
  rw [List.zipIdx_map, List.map_map]; rfl
theorem zip_len (rs : List Rd) : (pairs (rs.map rd)).length = rs.length := by rw [pairs_len, List.length_map]
theorem at_eq (rs : List Rd) (x : Int) : ((pairs (rs.map rd)).filter (bAt x)).map yFst = Li (atR rs x) := by
  rw [pairs_map, List.filter_map, List.map_map]
  unfold Li atR
  rw [List.map_map]; rfl
theorem oIn_two (b : Bool) (x a c : Int) : oIn b (.int x) (.tup [.int a, .int c]) = .ok (.fro (.bl (if b then !(a == x || c == x) else (a == x || c == x)))) := by
  simp [oIn, D.flat, inF, D.eqF]
theorem m_law_at (p : Pl) (x : Int) (h8 : p.rs.length ≤ 8) : F__law_at [.fro p.pl, .fro (.int x)] = .ok (.own (.lst (Li (atR p.rs x))), [.un, .un]) := by
  have hl : lcL (gT 2 (gsCons (gN 2) (gsCons (gN 3) gsNil))) [2, 3] (bB (e2 (oIn false) (eUse 1) (eSl none (some 2) (eUse 3)))) (eVar 2) (pairs (p.rs.map rd)) [.fro p.pl, .fro (.int x), .un, .un] []
      = .ok (Li (atR p.rs x), [.fro p.pl, .fro (.int x), .un, .un]) := by
    rw [lcL_map (bAt x) yFst (fun d hd => ?_) (by rw [zip_len]; simp; exact sl8 (by omega)), at_eq]
    · rfl
    · rw [pairs_map] at hd
      obtain ⟨q, hq, rfl⟩ := List.mem_map.mp hd
      have hs : cutD [D.int q.1.1, .int q.1.2.1, .int q.1.2.2] none (some 2) = [.int q.1.1, .int q.1.2.1] := rfl
      refine ⟨[.fro p.pl, .fro (.int x), .fro (.int (q.2 : Nat)), .fro (rd q.1)], [.fro p.pl, .fro (.int x), .fro (.int (q.2 : Nat)), .fro (rd q.1)], by simp, ?_, fun _ => rfl, fun _ => ⟨.fro (.int (q.2 : Nat)), [.fro p.pl, .fro (.int x), .fro (.int (q.2 : Nat)), .fro (rd q.1)], by simp, rfl, rfl⟩⟩
      simp [oIn_two, bAt, rd, eSl, hs]
  have hx : oIx p.pl (.int 1) = .ok (.fro (.tup (p.rs.map rd))) := rfl
  simp [F__law_at, hl, hx]
/-! ### places of roads; what is in order -/
def InR (n : Nat) (l : List Int) : Prop := ∀ r ∈ l, 0 ≤ r ∧ r < n
theorem at_mem {rs : List Rd} {x r : Int} : r ∈ atR rs x ↔ ∃ (i : Nat) (q : Rd), r = i ∧ rs[i]? = some q ∧ (q.1 = x ∨ q.2.1 = x) := by
  unfold atR
  rw [List.mem_map]
  constructor
  · rintro ⟨⟨q, i⟩, hq, rfl⟩
    obtain ⟨h1, h2⟩ := List.mem_filter.mp hq
    refine ⟨i, q, rfl, ?_, by simpa using h2⟩
    have := List.mem_zipIdx_iff_getElem?.mp h1
    simpa using this
  · rintro ⟨i, q, rfl, h1, h2⟩
    exact ⟨(q, i), List.mem_filter.mpr ⟨List.mem_zipIdx_iff_getElem?.mpr (by simpa using h1), by simpa using h2⟩, rfl⟩
theorem at_in (rs : List Rd) (x : Int) : InR rs.length (atR rs x) := fun r hr => by
  obtain ⟨i, q, rfl, h1, _⟩ := at_mem.mp hr
  have := (List.getElem?_eq_some_iff.mp h1).1
  omega
theorem at_asc (rs : List Rd) (x : Int) : (atR rs x).Pairwise (· < ·) := by
  unfold atR
  rw [List.pairwise_map]
  refine List.Pairwise.filter _ ?_
  have h : (rs.zipIdx.map (·.2)).Pairwise (· < ·) := by
    rw [List.zipIdx_map_snd]
    exact List.pairwise_lt_range'
  rw [List.pairwise_map] at h
  exact h.imp fun {a b} q => by omega
end Dt
end

section
set_option Elab.async false
set_option linter.all false
set_option maxRecDepth 100000
set_option maxHeartbeats 4000000
set_option autoImplicit false
namespace Dt
open PySem PySem.Spec PyProof.Rows L2

/-! ### what a walker takes -/
def ovr (rs : List Rd) (r x : Int) : Int := match rs[r.toNat]? with
  | some q => q.1 + q.2.1 - x
  | none => 0
def lenR (rs : List Rd) (r : Int) : Int := match rs[r.toNat]? with
  | some q => q.2.2
  | none => 0
def Pl.ones (p : Pl) : Pl := { p with rs := p.rs.map fun q => (q.1, q.2.1, 1) }
def restW (q : Pl) (w : List Int) (x r : Int) : Option Int := (lenTo q w (ovr q.rs r x)).map (· + lenR q.rs r)
def rowsW (q : Pl) (w free : List Int) (x : Int) : List (Int × Int) := (atR q.rs x).filterMap fun r => if free.contains r then (restW q w x r).map fun z => (z, r) else none
def lessR (a b : Int × Int) : Bool := if a.1 = b.1 then decide (a.2 < b.2) else decide (a.1 < b.1)
def minRow : List (Int × Int) → Option (Int × Int)
  | [] => none
  | a :: l => match minRow l with
    | none => some a
    | some b => if lessR b a then some b else some a
def choose (q : Pl) (w free : List Int) (x : Int) : Option Int := (minRow (rowsW q w free x)).map (·.2)
inductive Ru where
  | near | few | known
def compl (n : Nat) (free : List Int) : List Int := ((List.range n).map fun i : Nat => (i : Int)).filter fun r => !free.contains r
def choice (p : Pl) (free shut : List Int) (ru : Ru) (x : Int) : Option Int := match ru with
  | .near => choose p shut free x
  | .few => choose p.ones shut free x
  | .known => if (rowsW p (compl p.rs.length free) free x).isEmpty then choose p shut free x else choose p (compl p.rs.length free) free x
/-- what is seen at x in the world W -/
def seeR (W : List Int) (s : List Int × List Int) (r : Int) : List Int × List Int := if W.contains r && !s.2.contains r then (s.1, s.2 ++ [r]) else if !W.contains r && !s.1.contains r then (s.1 ++ [r], s.2) else s
def see (rs : List Rd) (W : List Int) (x : Int) (s : List Int × List Int) : List Int × List Int := (atR rs x).foldl (seeR W) s
def walkN (p : Pl) (W : List Int) (ru : Ru) : Nat → Int → List Int × List Int → List Int → Option (List Int × Int)
  | 0, _, _, _ => none
  | n + 1, x, s, fo => match choice p (see p.rs W x s).1 (see p.rs W x s).2 ru x with
    | none => some (fo, x)
    | some r => if x = p.g then some (fo, x) else walkN p W ru n (ovr p.rs r x) (see p.rs W x s) (fo ++ [r])
theorem walkN_more {p : Pl} {W : List Int} {ru : Ru} : ∀ {n m : Nat} {x : Int} {s : List Int × List Int} {fo : List Int} {z : List Int × Int}, n ≤ m → walkN p W ru n x s fo = some z → walkN p W ru m x s fo = some z
  | 0, _, _, _, _, _, _, h => by cases h
  | n + 1, 0, _, _, _, _, h, _ => absurd h (by omega)
  | n + 1, m + 1, x, s, fo, z, hm, h => by
    rw [walkN] at h ⊢
    split at h
    · exact h
    · rename_i r e
      split at h
      · rename_i hx; rw [if_pos hx]; exact h
      · rename_i hx
        rw [if_neg hx]
        exact walkN_more (by omega) h

/-! ### the least row -/
theorem minRow_mem : ∀ {l : List (Int × Int)} {a : Int × Int}, minRow l = some a → a ∈ l
  | b :: l, a, h => by
    rw [minRow] at h
    split at h
    · cases h; exact List.mem_cons_self ..
    · rename_i c e
      split at h
      · cases h; exact List.mem_cons_of_mem _ (minRow_mem e)
      · cases h; exact List.mem_cons_self ..
theorem minRow_none {l : List (Int × Int)} (h : minRow l = none) : l = [] := by
  cases l with
  | nil => rfl
  | cons a l =>
    rw [minRow] at h
    split at h
    · cases h
    · split at h <;> cases h
theorem minRow_le : ∀ {l : List (Int × Int)} {a b : Int × Int}, minRow l = some a → b ∈ l → a.1 ≤ b.1
  | c :: l, a, b, h, hb => by
    rw [minRow] at h
    have out : ∀ {d : Int × Int}, lessR d c = true → d.1 ≤ c.1 := fun {d} z => by
      unfold lessR at z
      split at z
      · omega
      · have := of_decide_eq_true z; omega
    have not : ∀ {d : Int × Int}, ¬ lessR d c = true → c.1 ≤ d.1 := fun {d} z => by
      unfold lessR at z
      split at z
      · omega
      · have := z; rw [decide_eq_true_eq] at this; omega
    split at h
    · rename_i e
      cases h
      rw [minRow_none e] at hb
      rw [List.mem_singleton.mp hb]; exact Int.le_refl _
    · rename_i d e
      split at h
      · rename_i z
        cases h
        rcases List.mem_cons.mp hb with rfl | hb
        · exact out z
        · exact minRow_le e hb
      · rename_i z
        cases h
        rcases List.mem_cons.mp hb with rfl | hb
        · exact Int.le_refl _
        · exact Int.le_trans (not z) (minRow_le e hb)

/-! ### a map without an order of roads -/
structure Pl.Gd (p : Pl) : Prop where
  P2 : 2 ≤ p.P
  P6 : p.P ≤ 6
  r8 : p.rs.length ≤ 8
  rd : ∀ r ∈ p.rs, RdOk p.P r
  b0 : 0 ≤ p.b
  bP : p.b < p.P
  g0 : 0 ≤ p.g
  gP : p.g < p.P
theorem Pl.Ok.gd {p : Pl} (h : p.Ok) : p.Gd := ⟨h.P2, h.P6, h.r8, h.rd, h.b0, h.bP, h.g0, h.gP⟩
theorem Pl.Gd.ones {p : Pl} (h : p.Gd) : p.ones.Gd := ⟨h.P2, h.P6, by show (p.rs.map _).length ≤ 8; rw [List.length_map]; exact h.r8, fun r hr => by
  obtain ⟨q, hq, rfl⟩ := List.mem_map.mp (show r ∈ p.rs.map fun q => (q.1, q.2.1, 1) from hr)
  have := h.rd q hq
  exact ⟨this.a0, this.ab, this.bP, Int.le_refl 1, by show (1 : Int) ≤ 9; decide⟩, h.b0, h.bP, h.g0, h.gP⟩
theorem ones_get (rs : List Rd) (i : Nat) : (rs.map fun q : Rd => (q.1, q.2.1, (1 : Int)))[i]? = (rs[i]?).map fun q => (q.1, q.2.1, (1 : Int)) := List.getElem?_map
theorem ovr_ones (rs : List Rd) (r x : Int) : ovr (rs.map fun q : Rd => (q.1, q.2.1, (1 : Int))) r x = ovr rs r x := by
  unfold ovr
  rw [ones_get]
  cases rs[r.toNat]? <;> rfl
theorem atR_ones (rs : List Rd) (x : Int) : atR (rs.map fun q : Rd => (q.1, q.2.1, (1 : Int))) x = atR rs x := by
  unfold atR
  rw [List.zipIdx_map, List.filter_map, List.map_map]; rfl
section
variable {q : Pl} {w free : List Int} {x : Int}
/-- what is known at x: what is not barred is open -/
structure Kn (q : Pl) (w free : List Int) (x : Int) : Prop where
  op : ∀ r ∈ atR q.rs x, free.contains r = true → r ∉ w
  cl : ∀ r ∈ atR q.rs x, r ∉ w → free.contains r = true
theorem at_edge {r : Int} (hr : r ∈ atR q.rs x) (hw : r ∉ w) : ∃ e ∈ edges q.rs w, e.1 = x ∧ e.2.1 = ovr q.rs r x ∧ e.2.2 = lenR q.rs r := by
  obtain ⟨i, c, rfl, h1, h2⟩ := at_mem.mp hr
  have e1 : ovr q.rs (i : Int) x = c.1 + c.2.1 - x := by unfold ovr; rw [Int.toNat_natCast, h1]
  have e2 : lenR q.rs (i : Int) = c.2.2 := by unfold lenR; rw [Int.toNat_natCast, h1]
  rcases h2 with h2 | h2
  · exact ⟨(c.1, c.2.1, c.2.2), mem_edges.mpr ⟨i, c, h1, hw, .inl rfl⟩, h2, by rw [e1, ← h2]; show c.2.1 = _; omega, e2.symm⟩
  · exact ⟨(c.2.1, c.1, c.2.2), mem_edges.mpr ⟨i, c, h1, hw, .inr rfl⟩, h2, by rw [e1, ← h2]; show c.1 = _; omega, e2.symm⟩
theorem edge_at {e : Rd} (he : e ∈ edges q.rs w) : ∃ r, r ∈ atR q.rs e.1 ∧ r ∉ w ∧ ovr q.rs r e.1 = e.2.1 ∧ lenR q.rs r = e.2.2 := by
  obtain ⟨i, c, h1, hw, h3⟩ := mem_edges.mp he
  have o : ∀ y, ovr q.rs (i : Int) y = c.1 + c.2.1 - y := fun y => by unfold ovr; rw [Int.toNat_natCast, h1]
  have l : lenR q.rs (i : Int) = c.2.2 := by unfold lenR; rw [Int.toNat_natCast, h1]
  rcases h3 with rfl | rfl
  · exact ⟨i, at_mem.mpr ⟨i, c, rfl, h1, .inl rfl⟩, hw, by rw [o]; show c.1 + c.2.1 - c.1 = c.2.1; omega, l⟩
  · exact ⟨i, at_mem.mpr ⟨i, c, rfl, h1, .inr rfl⟩, hw, by rw [o]; show c.1 + c.2.1 - c.2.1 = c.1; omega, l⟩
theorem ovr_in (h : q.Gd) {r : Int} (hr : r ∈ atR q.rs x) : 0 ≤ ovr q.rs r x ∧ ovr q.rs r x < q.P ∧ 1 ≤ lenR q.rs r := by
  obtain ⟨i, c, rfl, h1, h2⟩ := at_mem.mp hr
  have ok := h.rd c (List.mem_of_getElem? h1)
  have e1 : ovr q.rs (i : Int) x = c.1 + c.2.1 - x := by unfold ovr; rw [Int.toNat_natCast, h1]
  have e2 : lenR q.rs (i : Int) = c.2.2 := by unfold lenR; rw [Int.toNat_natCast, h1]
  have := ok.a0; have := ok.ab; have := ok.bP; have := ok.l1
  rw [e1, e2]
  rcases h2 with h2 | h2 <;> omega
theorem row_mem {a : Int × Int} : a ∈ rowsW q w free x ↔ a.2 ∈ atR q.rs x ∧ free.contains a.2 = true ∧ restW q w x a.2 = some a.1 := by
  unfold rowsW
  rw [List.mem_filterMap]
  constructor
  · rintro ⟨r, hr, e⟩
    split at e
    · rename_i hf
      obtain ⟨z, hz, rfl⟩ := Option.map_eq_some_iff.mp e
      exact ⟨hr, hf, hz⟩
    · cases e
  · rintro ⟨h1, h2, h3⟩
    exact ⟨a.2, h1, by rw [if_pos h2, h3]; rfl⟩
/-- the road that is chosen is the first of a least way -/
theorem choose_some (h : q.Gd) (K : Kn q w free x) (x0 : 0 ≤ x) (xP : x < q.P) (hx : x ≠ q.g) {r : Int} (e : choose q w free x = some r) :
    r ∈ atR q.rs x ∧ free.contains r = true ∧ ∃ d', lenTo q w (ovr q.rs r x) = some d' ∧ lenTo q w x = some (lenR q.rs r + d') := by
  obtain ⟨a, ha, rfl⟩ := Option.map_eq_some_iff.mp e
  obtain ⟨h1, h2, h3⟩ := row_mem.mp (minRow_mem ha)
  obtain ⟨d', h4, h5⟩ := Option.map_eq_some_iff.mp h3
  refine ⟨h1, h2, d', h4, ?_⟩
  obtain ⟨ed, m1, m2, m3, m4⟩ := at_edge h1 (K.op _ h1 h2)
  have le := lenTo_road h.P2 h.rd m1 (by rw [m3]; exact h4)
  rw [m2, m4] at le
  obtain ⟨d, e1, e2⟩ := BF.le_some le
  obtain ⟨ed2, n1, n2, d2, n3, n4⟩ := lenTo_first h.P2 h.rd h.g0 x0 xP hx e1
  obtain ⟨r2, o1, o2, o3, o4⟩ := edge_at n1
  rw [n2] at o1 o3
  have row : ((ed2.2.2 + d2 : Int), r2) ∈ rowsW q w free x := row_mem.mpr ⟨o1, K.cl _ o1 o2, by
    unfold restW
    rw [o3, n3, o4]
    show some (d2 + ed2.2.2) = some (ed2.2.2 + d2)
    rw [Int.add_comm]⟩
  have := minRow_le ha row
  rw [e1]; congr 1
  have : a.1 ≤ ed2.2.2 + d2 := this
  omega
theorem choose_none (h : q.Gd) (K : Kn q w free x) (x0 : 0 ≤ x) (xP : x < q.P) (hx : x ≠ q.g) : (rowsW q w free x = []) ↔ lenTo q w x = none := by
  constructor
  · intro e
    cases hl : lenTo q w x with
    | none => rfl
    | some d =>
      obtain ⟨ed2, n1, n2, d2, n3, n4⟩ := lenTo_first h.P2 h.rd h.g0 x0 xP hx hl
      obtain ⟨r2, o1, o2, o3, o4⟩ := edge_at n1
      rw [n2] at o1 o3
      have row : ((d2 + ed2.2.2 : Int), r2) ∈ rowsW q w free x := row_mem.mpr ⟨o1, K.cl _ o1 o2, by unfold restW; rw [o3, n3, o4]; rfl⟩
      rw [e] at row; cases row
  · intro e
    cases hr : rowsW q w free x with
    | nil => rfl
    | cons a l =>
      have ha : a ∈ rowsW q w free x := by rw [hr]; exact List.mem_cons_self ..
      obtain ⟨h1, h2, h3⟩ := row_mem.mp ha
      obtain ⟨d', h4, h5⟩ := Option.map_eq_some_iff.mp h3
      obtain ⟨ed, m1, m2, m3, m4⟩ := at_edge h1 (K.op _ h1 h2)
      have le := lenTo_road h.P2 h.rd m1 (by rw [m3]; exact h4)
      rw [m2, e] at le
      exact le.elim
end
end Dt
end

section
set_option Elab.async false
set_option linter.all false
set_option maxRecDepth 100000
set_option maxHeartbeats 4000000
set_option autoImplicit false
namespace Dt
open PySem PySem.Spec PyProof.Rows L2

/-! ### no length is large -/
namespace BF
theorem small_rel {b : Vs} {M : Int} (h : ∀ j y, g b j = some y → y ≤ M) {e : Rd} (he : e.2.2 ≤ 9) : ∀ j y, g (rel b e) j = some y → y ≤ M + 9 := fun j y hy => by
  rcases rel_new (b := b) (e := e) j with q | ⟨rfl, z, h1, h2⟩
  · have := h j y (q ▸ hy); omega
  · rw [h2] at hy; cases hy
    have := h _ _ h1; omega
theorem small_fold : ∀ (F : List Rd) {b : Vs} {M : Int}, (∀ e ∈ F, e.2.2 ≤ 9) → (∀ j y, g b j = some y → y ≤ M) → ∀ j y, g (F.foldl rel b) j = some y → y ≤ M + 9 * F.length
  | [], _, _, _, h => fun j y hy => by have := h j y hy; simp; omega
  | e :: F, b, M, hF, h => fun j y hy => by
    have := small_fold F (fun e' he' => hF e' (List.mem_cons_of_mem _ he')) (small_rel h (hF e (List.mem_cons_self ..))) j y hy
    rw [List.length_cons]; omega
theorem small_it {E : List Rd} (hE : ∀ e ∈ E, e.2.2 ≤ 9) : ∀ (k : Nat) {b : Vs} {M : Int}, (∀ j y, g b j = some y → y ≤ M) → ∀ j y, g (it E k b) j = some y → y ≤ M + 9 * E.length * k
  | 0, _, _, h => fun j y hy => by have := h j y hy; simp; omega
  | k + 1, b, M, h => fun j y hy => by
    have := small_it hE k (small_fold E hE h) j y hy
    rw [Int.natCast_add, Int.mul_add]; simp; omega
end BF
section
variable {q : Pl} {w : List Int} {x : Int}
theorem edges_len : (edges q.rs w).length ≤ 2 * q.rs.length := by
  have : ∀ l : List (Rd × Nat), (l.flatMap fun q => if w.contains (q.2 : Int) then [] else [(q.1.1, q.1.2.1, q.1.2.2), (q.1.2.1, q.1.1, q.1.2.2)]).length ≤ 2 * l.length := fun l => by
    induction l with
    | nil => exact Nat.le_refl _
    | cons a l ih =>
      rw [List.flatMap_cons, List.length_append, List.length_cons]
      split
      · simp only [List.length_nil]; omega
      · simp only [List.length_cons, List.length_nil]; omega
  have h := this q.rs.zipIdx
  rw [List.length_zipIdx] at h
  exact h
theorem lenTo_small (h : q.Gd) (x0 : 0 ≤ x) (xP : x < q.P) {d : Int} (e : lenTo q w x = some d) : 0 ≤ d ∧ d ≤ 720 := by
  refine ⟨(lenTo_path h.rd x0 xP e).2, ?_⟩
  unfold lenTo at e
  rw [rounds_it] at e
  have h9 : ∀ e ∈ edges q.rs w, e.2.2 ≤ 9 := fun e he => by
    obtain ⟨i, c, h1, _, h3⟩ := mem_edges.mp he
    have := (h.rd c (List.mem_of_getElem? h1)).l9
    rcases h3 with rfl | rfl <;> exact this
  have := BF.small_it h9 (q.P - 1).toNat (b := start0 q.P x) (M := 0) (fun j y hy => by
    rw [start0_g x0 xP] at hy
    split at hy
    · cases hy; exact Int.le_refl _
    · cases hy) _ _ e
  have l1 := edges_len (q := q) (w := w)
  have l2 := h.r8
  have l3 := h.P6
  have a1 : (9 * (edges q.rs w).length : Int) ≤ 144 := by omega
  have a2 : ((q.P - 1).toNat : Int) ≤ 5 := by omega
  have a3 : (9 * (edges q.rs w).length : Int) * ((q.P - 1).toNat : Int) ≤ 144 * 5 := Int.mul_le_mul a1 a2 (by omega) (by omega)
  omega
end

/-! ### what is seen -/
structure Sees (n : Nat) (W : List Int) (s : List Int × List Int) : Prop where
  f : ∀ r ∈ s.1, r ∉ W ∧ 0 ≤ r ∧ r < n
  c : ∀ r ∈ s.2, r ∈ W ∧ 0 ≤ r ∧ r < n
  nf : s.1.Nodup
  nc : s.2.Nodup
theorem Sees.nil (n : Nat) (W : List Int) : Sees n W ([], []) := ⟨(fun r h => by cases h), (fun r h => by cases h), List.nodup_nil, List.nodup_nil⟩
theorem nodup_snoc {l : List Int} {r : Int} (h : l.Nodup) (n : r ∉ l) : (l ++ [r]).Nodup := by
  rw [List.nodup_append]
  exact ⟨h, by simp, fun a ha b hb e => n (by rw [List.mem_singleton.mp hb] at e; rw [← e]; exact ha)⟩
theorem Sees.step {n : Nat} {W : List Int} {s : List Int × List Int} (h : Sees n W s) {r : Int} (h0 : 0 ≤ r ∧ r < n) : Sees n W (seeR W s r) ∧ (∀ a ∈ s.1, a ∈ (seeR W s r).1) ∧ (∀ a ∈ s.2, a ∈ (seeR W s r).2) ∧ (r ∈ W → r ∈ (seeR W s r).2) ∧ (r ∉ W → r ∈ (seeR W s r).1) := by
  unfold seeR
  by_cases hW : r ∈ W
  · have cW : W.contains r = true := List.contains_iff_mem.mpr hW
    by_cases h2 : r ∈ s.2
    · have c2 : s.2.contains r = true := List.contains_iff_mem.mpr h2
      simp only [cW, c2, Bool.not_true, Bool.and_false, Bool.false_and, Bool.false_eq_true, if_false]
      exact ⟨h, fun a z => z, fun a z => z, fun _ => h2, fun z => absurd hW z⟩
    · have c2 : s.2.contains r = false := by rw [Bool.eq_false_iff, ne_eq, List.contains_iff_mem]; exact h2
      simp only [cW, c2, Bool.not_false, Bool.and_true, if_true]
      refine ⟨⟨h.f, fun a ha => ?_, h.nf, nodup_snoc h.nc h2⟩, fun a z => z, fun a z => List.mem_append_left _ z, fun _ => by simp, fun z => absurd hW z⟩
      rcases List.mem_append.mp ha with ha | ha
      · exact h.c a ha
      · rw [List.mem_singleton.mp ha]; exact ⟨hW, h0⟩
  · have cW : W.contains r = false := by rw [Bool.eq_false_iff, ne_eq, List.contains_iff_mem]; exact hW
    by_cases h2 : r ∈ s.1
    · have c2 : s.1.contains r = true := List.contains_iff_mem.mpr h2
      simp only [cW, c2, Bool.not_true, Bool.and_false, Bool.false_and, Bool.false_eq_true, if_false]
      exact ⟨h, fun a z => z, fun a z => z, fun z => absurd z hW, fun _ => h2⟩
    · have c2 : s.1.contains r = false := by rw [Bool.eq_false_iff, ne_eq, List.contains_iff_mem]; exact h2
      simp only [cW, c2, Bool.not_false, Bool.and_true, Bool.false_and, Bool.false_eq_true, if_false, if_true]
      refine ⟨⟨fun a ha => ?_, h.c, nodup_snoc h.nf h2, h.nc⟩, fun a z => List.mem_append_left _ z, fun a z => z, fun z => absurd z hW, fun _ => by simp⟩
      rcases List.mem_append.mp ha with ha | ha
      · exact h.f a ha
      · rw [List.mem_singleton.mp ha]; exact ⟨hW, h0⟩
theorem Sees.fold {n : Nat} {W : List Int} : ∀ {l : List Int} {s : List Int × List Int}, Sees n W s → (∀ r ∈ l, 0 ≤ r ∧ r < n) → Sees n W (l.foldl (seeR W) s) ∧ (∀ a ∈ s.1, a ∈ (l.foldl (seeR W) s).1) ∧ (∀ a ∈ s.2, a ∈ (l.foldl (seeR W) s).2) ∧ (∀ r ∈ l, r ∈ W → r ∈ (l.foldl (seeR W) s).2) ∧ (∀ r ∈ l, r ∉ W → r ∈ (l.foldl (seeR W) s).1)
  | [], s, h, _ => ⟨h, fun _ z => z, fun _ z => z, (fun r z => by cases z), (fun r z => by cases z)⟩
  | r :: l, s, h, hl => by
    obtain ⟨h1, h2, h3, h4, h5⟩ := h.step (hl r (List.mem_cons_self ..))
    obtain ⟨g1, g2, g3, g4, g5⟩ := Sees.fold h1 fun a ha => hl a (List.mem_cons_of_mem _ ha)
    refine ⟨g1, fun a z => g2 a (h2 a z), fun a z => g3 a (h3 a z), fun a ha hw => ?_, fun a ha hw => ?_⟩
    · rcases List.mem_cons.mp ha with rfl | ha
      · exact g3 _ (h4 hw)
      · exact g4 a ha hw
    · rcases List.mem_cons.mp ha with rfl | ha
      · exact g2 _ (h5 hw)
      · exact g5 a ha hw
theorem sees_at {p : Pl} {W : List Int} {x : Int} {s : List Int × List Int} (h : Sees p.rs.length W s) : Sees p.rs.length W (see p.rs W x s) ∧ (∀ a ∈ s.1, a ∈ (see p.rs W x s).1) ∧ (∀ a ∈ s.2, a ∈ (see p.rs W x s).2) ∧ (∀ r ∈ atR p.rs x, r ∈ W → r ∈ (see p.rs W x s).2) ∧ (∀ r ∈ atR p.rs x, r ∉ W → r ∈ (see p.rs W x s).1) :=
  Sees.fold h (at_in p.rs x)
theorem sub_len : ∀ {l m : List Int}, l.Nodup → (∀ a ∈ l, a ∈ m) → l.length ≤ m.length
  | [], _, _, _ => Nat.zero_le _
  | a :: l, m, h, s => by
    have ha := s a (List.mem_cons_self ..)
    have nd := List.nodup_cons.mp h
    have := sub_len (l := l) (m := m.erase a) nd.2 fun b hb => by
      have : b ≠ a := fun z => nd.1 (z ▸ hb)
      exact (List.mem_erase_of_ne this).mpr (s b (List.mem_cons_of_mem _ hb))
    rw [List.length_erase_of_mem ha] at this
    have hp : 0 < m.length := List.length_pos_of_mem ha
    rw [List.length_cons]; omega
theorem eq_of_len {l m : List Int} (hl : l.Nodup) (hm : m.Nodup) (s : ∀ a ∈ l, a ∈ m) (h : m.length ≤ l.length) : ∀ a, a ∈ l ↔ a ∈ m := fun a => ⟨s a, fun ha => by
  by_cases z : a ∈ l
  · exact z
  · have := sub_len (l := a :: l) (m := m) (List.nodup_cons.mpr ⟨z, hl⟩) fun b hb => by
      rcases List.mem_cons.mp hb with rfl | hb
      · exact ha
      · exact s b hb
    rw [List.length_cons] at this
    omega⟩
theorem mem_compl {n : Nat} {free : List Int} {r : Int} : r ∈ compl n free ↔ (0 ≤ r ∧ r < n) ∧ r ∉ free := by
  unfold compl
  rw [List.mem_filter, List.mem_map]
  constructor
  · rintro ⟨⟨i, hi, rfl⟩, h⟩
    have := List.mem_range.mp hi
    refine ⟨by omega, fun z => ?_⟩
    rw [List.contains_iff_mem.mpr z] at h
    cases h
  · rintro ⟨⟨h1, h2⟩, h3⟩
    refine ⟨⟨r.toNat, List.mem_range.mpr (by omega), by omega⟩, ?_⟩
    have : free.contains r = false := by rw [Bool.eq_false_iff, ne_eq, List.contains_iff_mem]; exact h3
    rw [this]; rfl
/-- knowledge at x behind what is seen there -/
structure At (p : Pl) (W : List Int) (x : Int) (s : List Int × List Int) : Prop extends Sees p.rs.length W s where
  x0 : 0 ≤ x
  xP : x < p.P
  op : ∀ r ∈ atR p.rs x, r ∈ W → r ∈ s.2
  cl : ∀ r ∈ atR p.rs x, r ∉ W → r ∈ s.1
theorem At.kn {p : Pl} {W : List Int} {x : Int} {s : List Int × List Int} (h : At p W x s) : Kn p s.2 s.1 x :=
  ⟨fun r _ hf z => (h.f r (List.contains_iff_mem.mp hf)).1 (h.c r z).1, fun r hr hn => List.contains_iff_mem.mpr (h.cl r hr fun z => hn (h.op r hr z))⟩
theorem At.kn1 {p : Pl} {W : List Int} {x : Int} {s : List Int × List Int} (h : At p W x s) : Kn p.ones s.2 s.1 x := by
  have e := atR_ones p.rs x
  exact ⟨fun r hr => h.kn.op r (e ▸ hr), fun r hr => h.kn.cl r (e ▸ hr)⟩
theorem At.knK {p : Pl} {W : List Int} {x : Int} {s : List Int × List Int} (h : At p W x s) : Kn p (compl p.rs.length s.1) s.1 x :=
  ⟨fun r _ hf z => (mem_compl.mp z).2 (List.contains_iff_mem.mp hf), fun r hr hn => by
    rw [List.contains_iff_mem]
    by_cases z : r ∈ s.1
    · exact z
    · exact absurd (mem_compl.mpr ⟨at_in p.rs x r hr, z⟩) hn⟩
theorem At.next {p : Pl} {W : List Int} {x y : Int} {s : List Int × List Int} (h : At p W x s) (y0 : 0 ≤ y) (yP : y < p.P) : At p W y (see p.rs W y s) := by
  obtain ⟨h1, _, _, h4, h5⟩ := sees_at (x := y) h.toSees
  exact ⟨h1, y0, yP, h4, h5⟩
/-- what goes down with each road -/
def fuelN (q : Pl) (s : List Int × List Int) (x : Int) : Nat := (3 - s.2.length) * 721 + ((lenTo q s.2 x).getD 0).toNat
def fuelW (p : Pl) (ru : Ru) (s : List Int × List Int) (x : Int) : Nat := match ru with
  | .near => fuelN p s x
  | .few => fuelN p.ones s x
  | .known => match lenTo p (compl p.rs.length s.1) x with
    | some d => d.toNat
    | none => 721 + fuelN p s x
section
variable {p : Pl} {W : List Int} {x : Int} {s : List Int × List Int}
theorem fuelN_down {q : Pl} (h : q.Gd) (hrs : q.rs.length = p.rs.length) (hW : W.length ≤ 3) (A : At p W x s) {y d l : Int} (y0 : 0 ≤ y) (yP : y < q.P) (l1 : 1 ≤ l) (hx : lenTo q s.2 x = some (l + d)) (x0 : 0 ≤ x) (xP : x < q.P) (hy : lenTo q s.2 y = some d) :
    fuelN q (see p.rs W y s) y < fuelN q s x := by
  obtain ⟨h1, _, h3, _, _⟩ := sees_at (x := y) A.toSees
  have sub3 : (see p.rs W y s).2.length ≤ 3 := Nat.le_trans (sub_len h1.nc fun a ha => (h1.c a ha).1) hW
  have sm := lenTo_small h x0 xP hx
  have sd := lenTo_small h y0 yP hy
  unfold fuelN
  rw [hx]
  have le : s.2.length ≤ (see p.rs W y s).2.length := sub_len A.nc h3
  by_cases e : (see p.rs W y s).2.length ≤ s.2.length
  · have same := eq_of_len A.nc h1.nc h3 e
    have : lenTo q (see p.rs W y s).2 y = lenTo q s.2 y := lenTo_same (fun r => (same r).symm) y
    rw [this, hy]
    have : (see p.rs W y s).2.length = s.2.length := by omega
    rw [this]
    show _ + d.toNat < _ + (l + d).toNat
    omega
  · have b : ((lenTo q (see p.rs W y s).2 y).getD 0).toNat ≤ 720 := by
      cases e2 : lenTo q (see p.rs W y s).2 y with
      | none => exact Nat.zero_le _
      | some z =>
        have := lenTo_small h y0 yP e2
        show z.toNat ≤ 720
        omega
    show _ < _ + (l + d).toNat
    omega
theorem near_down (h : p.Gd) (hW : W.length ≤ 3) (A : At p W x s) (hx : x ≠ p.g) {r : Int} (e : choose p s.2 s.1 x = some r) : 0 ≤ ovr p.rs r x ∧ ovr p.rs r x < p.P ∧ fuelN p (see p.rs W (ovr p.rs r x) s) (ovr p.rs r x) < fuelN p s x := by
  obtain ⟨h1, h2, d, h3, h4⟩ := choose_some h A.kn A.x0 A.xP hx e
  obtain ⟨y0, yP, l1⟩ := ovr_in h h1
  exact ⟨y0, yP, fuelN_down h rfl hW A y0 yP l1 h4 A.x0 A.xP h3⟩
theorem fuel_down (h : p.Gd) (hW : W.length ≤ 3) (ru : Ru) (A : At p W x s) (hx : x ≠ p.g) {r : Int} (e : choice p s.1 s.2 ru x = some r) : 0 ≤ ovr p.rs r x ∧ ovr p.rs r x < p.P ∧ fuelW p ru (see p.rs W (ovr p.rs r x) s) (ovr p.rs r x) < fuelW p ru s x := by
  cases ru with
  | near => exact near_down h hW A hx e
  | few =>
    obtain ⟨h1, h2, d, h3, h4⟩ := choose_some h.ones A.kn1 A.x0 A.xP hx e
    have h1' := (atR_ones p.rs x) ▸ h1
    obtain ⟨y0, yP, _⟩ := ovr_in h h1'
    have eo : ovr p.ones.rs r x = ovr p.rs r x := ovr_ones p.rs r x
    rw [eo] at h3
    obtain ⟨_, _, l1⟩ := ovr_in h.ones h1
    exact ⟨y0, yP, fuelN_down h.ones (by show (p.rs.map _).length = _; rw [List.length_map]) hW A y0 yP l1 h4 A.x0 A.xP h3⟩
  | known =>
    unfold choice at e
    have cn := choose_none h A.knK A.x0 A.xP hx
    dsimp only at e
    split at e
    · rename_i hem
      have hk := cn.mp (List.isEmpty_iff.mp hem)
      obtain ⟨y0, yP, lt⟩ := near_down h hW A hx e
      refine ⟨y0, yP, ?_⟩
      show (match lenTo p (compl p.rs.length (see p.rs W (ovr p.rs r x) s).1) (ovr p.rs r x) with
        | some d => d.toNat
        | none => 721 + fuelN p (see p.rs W (ovr p.rs r x) s) (ovr p.rs r x)) < (match lenTo p (compl p.rs.length s.1) x with
        | some d => d.toNat
        | none => 721 + fuelN p s x)
      rw [hk]
      split
      · rename_i d hd
        have := lenTo_small h y0 yP hd
        show d.toNat < 721 + _
        omega
      · show 721 + _ < 721 + _
        omega
    · obtain ⟨h1, h2, d, h3, h4⟩ := choose_some h A.knK A.x0 A.xP hx e
      obtain ⟨y0, yP, l1⟩ := ovr_in h h1
      refine ⟨y0, yP, ?_⟩
      obtain ⟨_, s2, _, _, _⟩ := sees_at (x := ovr p.rs r x) A.toSees
      have mono := lenTo_mono (p := p) h.P2 h.rd y0 yP (w := compl p.rs.length (see p.rs W (ovr p.rs r x) s).1) (w' := compl p.rs.length s.1) fun a ha => by
        obtain ⟨z1, z2⟩ := mem_compl.mp ha
        exact mem_compl.mpr ⟨z1, fun z => z2 (s2 a z)⟩
      rw [h3] at mono
      obtain ⟨d', e1, e2⟩ := BF.le_some mono
      have sd := lenTo_small h y0 yP e1
      show (match lenTo p (compl p.rs.length (see p.rs W (ovr p.rs r x) s).1) (ovr p.rs r x) with
        | some d => d.toNat
        | none => 721 + fuelN p (see p.rs W (ovr p.rs r x) s) (ovr p.rs r x)) < (match lenTo p (compl p.rs.length s.1) x with
        | some d => d.toNat
        | none => 721 + fuelN p s x)
      rw [e1, h4]
      show d'.toNat < (lenR p.rs r + d).toNat
      omega
theorem walk_ends (h : p.Gd) (hW : W.length ≤ 3) (ru : Ru) : ∀ (n : Nat) (x : Int) (s : List Int × List Int) (fo : List Int), Sees p.rs.length W s → 0 ≤ x → x < p.P → fuelW p ru (see p.rs W x s) x < n → ∃ z, walkN p W ru n x s fo = some z
  | 0, _, _, _, _, _, _, hn => absurd hn (by omega)
  | n + 1, x, s, fo, S, x0, xP, hn => by
    have A : At p W x (see p.rs W x s) := by
      obtain ⟨h1, _, _, h4, h5⟩ := sees_at (x := x) S
      exact ⟨h1, x0, xP, h4, h5⟩
    rw [walkN]
    split
    · exact ⟨_, rfl⟩
    · rename_i r e
      split
      · exact ⟨_, rfl⟩
      · rename_i hx
        obtain ⟨y0, yP, lt⟩ := fuel_down h hW ru A hx e
        exact walk_ends h hW ru n _ _ _ A.toSees y0 yP (by omega)
theorem fuel_max (h : p.Gd) (ru : Ru) (s : List Int × List Int) {x : Int} (x0 : 0 ≤ x) (xP : x < p.P) : fuelW p ru s x < 4000 := by
  have nb : ∀ {q : Pl}, q.Gd → x < q.P → fuelN q s x ≤ 3 * 721 + 720 := fun {q} hq xq => by
    have b : ((lenTo q s.2 x).getD 0).toNat ≤ 720 := by
      cases e2 : lenTo q s.2 x with
      | none => exact Nat.zero_le _
      | some z =>
        have := lenTo_small hq x0 xq e2
        show z.toNat ≤ 720
        omega
    unfold fuelN
    have : (3 - s.2.length) * 721 ≤ 3 * 721 := Nat.mul_le_mul_right _ (by omega)
    omega
  cases ru with
  | near => exact Nat.lt_of_le_of_lt (nb h xP) (by decide)
  | few => exact Nat.lt_of_le_of_lt (nb h.ones xP) (by decide)
  | known =>
    show (match lenTo p (compl p.rs.length s.1) x with
      | some d => d.toNat
      | none => 721 + fuelN p s x) < 4000
    split
    · rename_i d hd
      have := lenTo_small h x0 xP hd
      show d.toNat < 4000
      omega
    · have := nb h xP
      show 721 + fuelN p s x < 4000
      omega
/-- the roads that a walker takes, and where it stays -/
def walkOf (p : Pl) (W : List Int) (ru : Ru) : List Int × Int := (walkN p W ru 4000 p.b ([], []) []).getD ([], 0)
theorem walkOf_eq (h : p.Gd) (hW : W.length ≤ 3) (ru : Ru) : walkN p W ru 4000 p.b ([], []) [] = some (walkOf p W ru) := by
  obtain ⟨z, hz⟩ := walk_ends h hW ru 4000 p.b ([], []) [] (.nil _ _) h.b0 h.bP (fuel_max h ru _ h.b0 h.bP)
  unfold walkOf
  rw [hz]; rfl
end
end Dt
end

section
set_option Elab.async false
set_option linter.all false
set_option maxRecDepth 100000
set_option maxHeartbeats 4000000
set_option autoImplicit false
namespace Dt
open PySem PySem.Spec PyProof.Rows L2
theorem flat_L (l : List Int) : (l.map D.int).all D.flat = true := List.all_eq_true.mpr fun d hd => by
  obtain ⟨a, _, rfl⟩ := List.mem_map.mp hd
  rfl
theorem inF_L (x : Int) (l : List Int) : inF (.int x) (l.map D.int) = l.contains x := by
  unfold inF
  induction l with
  | nil => rfl
  | cons y l ih =>
    rw [List.map_cons, List.any_cons, ih, List.contains_cons]
    show (y == x || l.contains x) = _
    by_cases h : y = x
    · subst h; rfl
    · rw [beq_eq_false_iff_ne.mpr h, beq_eq_false_iff_ne.mpr (Ne.symm h)]
@[simp] theorem oIn_tup (b : Bool) (x : Int) (l : List Int) : oIn b (.int x) (.tup (l.map D.int)) = .ok (.fro (.bl (if b then !l.contains x else l.contains x))) := by
  simp only [oIn, z_items_tup, Res.of_some, Res.bind_ok, flat_L, inF_L, D.flat, Bool.and_self, if_true]
@[simp] theorem oIn_lst (b : Bool) (x : Int) (l : List Int) : oIn b (.int x) (.lst (l.map D.int)) = .ok (.fro (.bl (if b then !l.contains x else l.contains x))) := by
  simp only [oIn, z_items_lst, Res.of_some, Res.bind_ok, flat_L, inF_L, D.flat, Bool.and_self, if_true]
@[simp] theorem frozen_app (ds : List D) (rs : List RV) : frozen (ds.map .fro ++ rs) = (frozen rs).map (ds ++ ·) := by
  induction ds with
  | nil => simp
  | cons d ds ih =>
    rw [List.map_cons, List.cons_append, frozen, ih, Option.map_map]; rfl
@[simp] theorem frozen_map (ds : List D) : frozen (ds.map .fro) = some ds := by
  have := frozen_app ds []
  simpa using this
@[simp] theorem frozen_appI (l : List Int) (rs : List RV) : frozen (l.map (RV.fro ∘ D.int) ++ rs) = (frozen rs).map (l.map D.int ++ ·) := by
  rw [← List.map_map]; exact frozen_app _ _
@[simp] theorem frozen_mapI (l : List Int) : frozen (l.map (RV.fro ∘ D.int)) = some (l.map D.int) := by
  rw [← List.map_map]; exact frozen_map _
/-- a filter over ints by a comprehension -/
theorem lc_ints {i : Nat} {tt : BF} {ρ0 : Env} (b : Int → Bool) {l : List Int} (h : ∀ r ∈ l, tt (ρ0.set i (.fro (.int r))) = .ok (b r, ρ0.set i (.fro (.int r)))) (hi : ρ0[i]? = some .un) (hl : l.length ≤ sizeLine) :
    lcL (gN i) [i] tt (eVar i) (l.map D.int) ρ0 [] = .ok ((l.filter b).map D.int, ρ0) := by
  have hlt : i < ρ0.length := (List.getElem?_eq_some_iff.mp hi).1
  have hw : ∀ c, (ρ0.set i c).set i .un = ρ0 := fun c => by
    rw [List.set_set]
    apply List.ext_getElem?
    intro k
    by_cases hk : i = k
    · subst hk; rw [List.getElem?_set_self hlt, hi]
    · rw [List.getElem?_set_ne hk]
  rw [lcL_map (fun d => match d with | .int r => b r | _ => false) id (fun d hd => ?_) (by simpa using hl)]
  · congr 2
    rw [List.map_id, List.nil_append]
    clear h hl
    induction l with
    | nil => rfl
    | cons r l ih =>
      rw [List.map_cons, List.filter_cons, List.filter_cons]
      cases hb : b r <;> simp [hb, ih]
  · obtain ⟨r, hr, rfl⟩ := List.mem_map.mp hd
    refine ⟨_, _, rfl, h r hr, fun _ => hw _, fun _ => ⟨.fro (.int r), _, ?_, rfl, hw (.fro (.int r))⟩⟩
    show eVar i _ = _
    rw [z_eVar, List.getElem?_set_self hlt]
end Dt
end

section
set_option Elab.async false
set_option linter.all false
set_option maxRecDepth 100000
set_option maxHeartbeats 4000000
set_option autoImplicit false
namespace Dt
open PySem PySem.Spec PyProof.Rows L2

/-! ### a dict from places to lengths -/
abbrev KVs := List (Int × Int)
def kfind (kv : KVs) (u : Int) : Option Int := (kv.find? fun p => decide (p.1 = u)).map (·.2)
def kput (kv : KVs) (u z : Int) : KVs := if (kv.any fun p => decide (p.1 = u)) = true then kv.map (fun p => if p.1 = u then (p.1, z) else p) else kv ++ [(u, z)]
def dK (kv : KVs) : D := .dic false (kv.map fun p => .int p.1) (kv.map fun p => .int p.2)
theorem dFind_K (u : Int) : ∀ kv : KVs, dFind false (kv.map fun p => D.int p.1) (kv.map fun p => D.int p.2) (.int u) = (kfind kv u).map D.int
  | [] => rfl
  | p :: kv => by
    have ih := dFind_K u kv
    unfold dFind kfind at ih ⊢
    rw [List.map_cons, List.map_cons, List.zip_cons_cons, List.find?_cons, List.find?_cons]
    have k : keq false ((D.int p.1, D.int p.2) : D × D).1 (.int u) = decide (p.1 = u) := rfl
    rw [k]
    by_cases h : p.1 = u
    · rw [decide_eq_true h]; rfl
    · rw [decide_eq_false h]; exact ih
theorem dHas_K (u : Int) (kv : KVs) : dHas false (kv.map fun p => D.int p.1) (.int u) = kv.any fun p => decide (p.1 = u) := by
  unfold dHas
  rw [List.any_map]; rfl
theorem dPut_K (u z : Int) (kv : KVs) : dPut false (kv.map fun p => D.int p.1) (kv.map fun p => D.int p.2) (.int u) (.int z) = ((kput kv u z).map fun p => D.int p.1, (kput kv u z).map fun p => D.int p.2) := by
  unfold dPut kput
  rw [dHas_K]
  by_cases h : (kv.any fun p => decide (p.1 = u)) = true
  · rw [if_pos h, if_pos h]
    clear h
    induction kv with
    | nil => rfl
    | cons p kv ih =>
      rw [Prod.mk.injEq] at ih
      obtain ⟨ih1, ih2⟩ := ih
      by_cases e : p.1 = u
      · have q : keq false (D.int p.1) (.int u) = true := decide_eq_true e
        simp only [List.map_cons, List.zipWith_cons_cons, q, if_pos e, if_true, Prod.mk.injEq]
        exact ⟨by rw [← ih1], by rw [← ih2]⟩
      · have q : keq false (D.int p.1) (.int u) = false := decide_eq_false e
        simp only [List.map_cons, List.zipWith_cons_cons, q, if_neg e, Bool.false_eq_true, if_false, Prod.mk.injEq]
        exact ⟨by rw [← ih1], by rw [← ih2]⟩
  · rw [if_neg h, if_neg h]; simp
theorem any_kfind (kv : KVs) (u : Int) : (kv.any fun p => decide (p.1 = u)) = (kfind kv u).isSome := by
  induction kv with
  | nil => rfl
  | cons p kv ih =>
    unfold kfind at ih ⊢
    rw [List.any_cons, List.find?_cons]
    by_cases h : p.1 = u
    · simp [h]
    · rw [decide_eq_false h]; exact ih
theorem kfind_put (kv : KVs) (u z v : Int) : kfind (kput kv u z) v = if v = u then some z else kfind kv v := by
  unfold kput
  by_cases h : (kv.any fun p => decide (p.1 = u)) = true
  · rw [if_pos h]
    have m : kfind (kv.map fun p => if p.1 = u then (p.1, z) else p) v = if v = u then (kfind kv v).map fun _ => z else kfind kv v := by
      clear h
      induction kv with
      | nil => by_cases e : v = u <;> simp [kfind]
      | cons p kv ih =>
        unfold kfind at ih ⊢
        rw [List.map_cons, List.find?_cons, List.find?_cons]
        by_cases e : p.1 = u
        · rw [if_pos e]
          by_cases e2 : p.1 = v
          · simp [e2, e2.symm.trans e]
          · simp only [decide_eq_false e2]; exact ih
        · rw [if_neg e]
          by_cases e2 : p.1 = v
          · have : ¬ v = u := fun z => e (e2.trans z)
            simp [e2, this]
          · simp only [decide_eq_false e2]; exact ih
    rw [m]
    by_cases e : v = u
    · subst e
      rw [any_kfind] at h
      obtain ⟨y, hy⟩ := Option.isSome_iff_exists.mp h
      rw [if_pos rfl, if_pos rfl, hy]; rfl
    · rw [if_neg e, if_neg e]
  · rw [if_neg h]
    have n : kfind kv u = none := by
      rw [any_kfind] at h
      cases q : kfind kv u with
      | none => rfl
      | some y => rw [q] at h; exact absurd rfl h
    clear h
    induction kv with
    | nil =>
      by_cases e : v = u
      · simp [kfind, e]
      · simp [kfind, e, Ne.symm e]
    | cons p kv ih =>
      unfold kfind at n ih ⊢
      rw [List.find?_cons] at n
      rw [List.cons_append, List.find?_cons, List.find?_cons]
      by_cases e1 : p.1 = u
      · rw [decide_eq_true e1] at n; cases n
      · rw [decide_eq_false e1] at n
        by_cases e2 : p.1 = v
        · have : ¬ v = u := fun z => e1 (e2.trans z)
          simp [e2, this]
        · simp only [decide_eq_false e2]; exact ih n
theorem kput_len (kv : KVs) (u z : Int) : (kput kv u z).length ≤ kv.length + 1 := by
  unfold kput
  split <;> simp
theorem kput_keys (kv : KVs) (u z : Int) : (kput kv u z).map (·.1) = if (kv.any fun p => decide (p.1 = u)) = true then kv.map (·.1) else kv.map (·.1) ++ [u] := by
  unfold kput
  split
  · rw [List.map_map]
    refine List.map_congr_left fun p _ => ?_
    show (if p.1 = u then (p.1, z) else p).1 = p.1
    split <;> rfl
  · simp
/-- the dict is the list -/
structure DB (P : Int) (kv : KVs) (b : Vs) : Prop where
  eq : ∀ u, 0 ≤ u → u < P → kfind kv u = gt b u
  nd : (kv.map (·.1)).Nodup
  rg : ∀ p ∈ kv, 0 ≤ p.1 ∧ p.1 < P
  len : (b.length : Int) = P
theorem DB.few {P : Int} {kv : KVs} {b : Vs} (h : DB P kv b) (h6 : P ≤ 6) : kv.length ≤ 6 := by
  have := sub_len (l := kv.map (·.1)) (m := ((List.range P.toNat).map fun i : Nat => (i : Int))) h.nd fun a ha => by
    obtain ⟨p, hp, rfl⟩ := List.mem_map.mp ha
    have := h.rg p hp
    exact List.mem_map.mpr ⟨p.1.toNat, List.mem_range.mpr (by omega), by omega⟩
  rw [List.length_map, List.length_map, List.length_range] at this
  omega
theorem gt_set {b : Vs} {u v z : Int} (u0 : 0 ≤ u) (hu : u < b.length) (v0 : 0 ≤ v) : gt (b.set u.toNat (some z)) v = if v = u then some z else gt b v := by
  by_cases e : v = u
  · subst e
    rw [if_pos rfl, BF.gt_g, BF.g_set (by omega)]
  · rw [if_neg e, BF.gt_g, BF.gt_g, BF.g_set_ne (by omega)]
theorem DB.put {P : Int} {kv : KVs} {b : Vs} (h : DB P kv b) {u z : Int} (u0 : 0 ≤ u) (uP : u < P) : DB P (kput kv u z) (b.set u.toNat (some z)) := by
  have hl := h.len
  refine ⟨fun v v0 vP => ?_, ?_, fun p hp => ?_, by rw [List.length_set]; exact hl⟩
  · rw [kfind_put, gt_set u0 (by omega) v0, h.eq v v0 vP]
  · rw [kput_keys]
    split
    · exact h.nd
    · rename_i n
      refine nodup_snoc h.nd fun hm => n ?_
      obtain ⟨p, hp, e⟩ := List.mem_map.mp hm
      exact List.any_eq_true.mpr ⟨p, hp, decide_eq_true e⟩
  · have : p.1 ∈ (kput kv u z).map (·.1) := List.mem_map.mpr ⟨p, hp, rfl⟩
    rw [kput_keys] at this
    have old : p.1 ∈ kv.map (·.1) → 0 ≤ p.1 ∧ p.1 < P := fun hm => by
      obtain ⟨p', hp', e⟩ := List.mem_map.mp hm
      rw [← e]; exact h.rg p' hp'
    split at this
    · exact old this
    · rcases List.mem_append.mp this with hm | hm
      · exact old hm
      · rw [List.mem_singleton.mp hm]; exact ⟨u0, uP⟩

/-! ### the law's rounds over the dict -/
@[simp] theorem z_oDGet (b : Bool) (ks vs : List D) (k : D) : oDGet (.dic b ks vs) k = (Res.need (okKey b k)).bind fun _ => (Res.of (dFind b ks vs k)).bind fun x => .ok (.fro x) := rfl
@[simp] theorem z_oDIn (neg b : Bool) (ks vs : List D) (k : D) : oDIn neg k (.dic b ks vs) = (Res.need (okKey b k)).bind fun _ => .ok (.fro (.bl (neg.xor (dFind b ks vs k).isSome))) := rfl
@[simp] theorem okKey_int (u : Int) : okKey false (.int u) = true := rfl
theorem z_sDPut {i : Nat} {fk fe : EF} {ρ : Env} : sDPut i fk fe ρ = (fe ρ).bind fun p => (Res.of p.1.take).bind fun x => (Res.need (isDic i p.2)).bind fun _ => (fk p.2).bind fun q => (Res.of q.1.take).bind fun kd => (putDic i kd x q.2).bind fun ρ1 => .ok (.nx, ρ1) := rfl
section
variable {p : Pl} {w : List Int} {bw : D}
def bodyD : SF := sIf (bAnd (bB (e2 (oIn true) (eUse 5) (eUse 1))) (bAnd (bB (e2 (oDIn false) (eUse 7) (eUse 3))) (bOr (bB (e2 (oDIn true) (eUse 8) (eUse 3))) (bB (e2 oLt (e2 oCat (e2 oDGet (eUse 3) (eUse 7)) (e2 oIx (eUse 6) (eC (.int 2)))) (e2 oDGet (eUse 3) (eUse 8))))))) (sDPut 3 (eVar 8) (e2 oCat (e2 oDGet (eUse 3) (eUse 7)) (e2 oIx (eUse 6) (eC (.int 2))))) (sNil)
def envD (pl bw : D) (x : Int) (kv : KVs) (u4 u5 u6 u7 u8 : Cell) : Env := [.fro pl, .fro bw, .fro (.int x), .own (dK kv), u4, u5, u6, u7, u8]
theorem bodyD_ok {pl : D} {x : Int} {kv : KVs} {b : Vs} {u4 : Cell} {i u v : Int} {q : Rd} (hin : oIn true (.int i) bw = .ok (.fro (.bl (!w.contains i)))) (hd : DB p.P kv b) (h6 : p.P ≤ 6) (u0 : 0 ≤ u) (uP : u < p.P) (v0 : 0 ≤ v) (vP : v < p.P) :
    ∃ kv', bodyD (envD pl bw x kv u4 (.fro (.int i)) (.fro (rd q)) (.fro (.int u)) (.fro (.int v))) = .ok (.nx, envD pl bw x kv' u4 (.fro (.int i)) (.fro (rd q)) (.fro (.int u)) (.fro (.int v))) ∧ DB p.P kv' (if w.contains i then b else relax b u v q.2.2) := by
  have eu := hd.eq u u0 uP
  have ev := hd.eq v v0 vP
  have fu := dFind_K u kv
  have fv := dFind_K v kv
  have hx : oIx (rd q) (.int 2) = .ok (.fro (.int q.2.2)) := rfl
  have hz : kv.length < sizeLine := Nat.lt_of_le_of_lt (hd.few h6) (by decide)
  cases hw : w.contains i with
  | true =>
    rw [hw] at hin
    exact ⟨kv, by simp [bodyD, envD, hin], by simpa [hw] using hd⟩
  | false =>
    rw [hw] at hin
    unfold relax
    rw [if_neg Bool.false_ne_true]
    cases hu : gt b u with
    | none =>
      rw [eu, hu] at fu
      exact ⟨kv, by simp [bodyD, envD, hin, dK, fu], hd⟩
    | some d =>
      rw [eu, hu] at fu
      have fu : dFind false (kv.map fun p => D.int p.1) (kv.map fun p => D.int p.2) (.int u) = some (.int d) := fu
      cases hv : gt b v with
      | none =>
        rw [ev, hv] at fv
        have fv : dFind false (kv.map fun p => D.int p.1) (kv.map fun p => D.int p.2) (.int v) = none := fv
        refine ⟨kput kv v (d + q.2.2), ?_, hd.put v0 vP⟩
        simp [bodyD, envD, hin, dK, fu, fv, hx, z_sDPut, isDic, putDic, Cell.mut, Cell.dat, Cell.put, dPut_K, hz]
      | some e =>
        rw [ev, hv] at fv
        have fv : dFind false (kv.map fun p => D.int p.1) (kv.map fun p => D.int p.2) (.int v) = some (.int e) := fv
        by_cases hlt : d + q.2.2 < e
        · refine ⟨kput kv v (d + q.2.2), ?_, by simp only [hlt, if_true]; exact hd.put v0 vP⟩
          simp [bodyD, envD, hin, dK, fu, fv, hx, z_sDPut, isDic, putDic, Cell.mut, Cell.dat, Cell.put, dPut_K, hz, hlt]
        · refine ⟨kv, ?_, by simp only [hlt, if_false]; exact hd⟩
          simp [bodyD, envD, hin, dK, fu, fv, hx, hlt]
end
end Dt
end

section
set_option Elab.async false
set_option linter.all false
set_option maxRecDepth 100000
set_option maxHeartbeats 4000000
set_option autoImplicit false
namespace Dt
open PySem PySem.Spec PyProof.Rows L2
section
variable {p : Pl} {w : List Int} {bw : D}
/-- the barred roads as data -/
def Bar (w : List Int) (bw : D) : Prop := ∀ i : Int, oIn true (.int i) bw = .ok (.fro (.bl (!w.contains i)))
theorem bar_lst (w : List Int) : Bar w (.lst (Li w)) := fun i => by simp
theorem bar_tup (w : List Int) : Bar w (.tup (Li w)) := fun i => by simp
def gP : GF := gT 2 (gsCons (gN 7) (gsCons (gN 8) (gsNil)))
def gW : GF := gT 2 (gsCons (gN 5) (gsCons (gN 6) (gsNil)))
def bodyP : SF := sFor gP (iData (eTup (aCons (eTup (aCons (e2 oIx (eUse 6) (eC (.int 0))) (aCons (e2 oIx (eUse 6) (eC (.int 1))) (aNil)))) (aCons (eTup (aCons (e2 oIx (eUse 6) (eC (.int 1))) (aCons (e2 oIx (eUse 6) (eC (.int 0))) (aNil)))) (aNil))))) bodyD
theorem bodyP_ok {pl : D} {x : Int} {kv : KVs} {b : Vs} {u4 u7 u8 : Cell} {q : Rd × Nat} (hin : Bar w bw) (hq : RdOk p.P q.1) (hd : DB p.P kv b) (h6 : p.P ≤ 6) :
    ∃ kv' v7 v8, bodyP (envD pl bw x kv u4 (.fro (.int q.2)) (.fro (rd q.1)) u7 u8) = .ok (.nx, envD pl bw x kv' u4 (.fro (.int q.2)) (.fro (rd q.1)) v7 v8) ∧ DB p.P kv' (step w b q) := by
  have h1 := hq.a0; have h2 := hq.ab; have h3 := hq.bP
  have x0 : oIx (rd q.1) (.int 0) = .ok (.fro (.int q.1.1)) := rfl
  have x1 : oIx (rd q.1) (.int 1) = .ok (.fro (.int q.1.2.1)) := rfl
  have z2 : 2 ≤ sizeLine := by decide
  obtain ⟨k1, s1, d1⟩ := bodyD_ok (pl := pl) (x := x) (u4 := u4) (q := q.1) (hin (q.2 : Nat)) hd h6 h1 (by omega) (v0 := by omega) (vP := h3) (u := q.1.1) (v := q.1.2.1)
  obtain ⟨k2, s2, d2⟩ := bodyD_ok (pl := pl) (x := x) (u4 := u4) (q := q.1) (hin (q.2 : Nat)) d1 h6 (by omega) h3 (v0 := h1) (vP := by omega) (u := q.1.2.1) (v := q.1.1)
  refine ⟨k2, .fro (.int q.1.2.1), .fro (.int q.1.1), ?_, ?_⟩
  · have e : (iData (eTup (aCons (eTup (aCons (e2 oIx (eUse 6) (eC (.int 0))) (aCons (e2 oIx (eUse 6) (eC (.int 1))) (aNil)))) (aCons (eTup (aCons (e2 oIx (eUse 6) (eC (.int 1))) (aCons (e2 oIx (eUse 6) (eC (.int 0))) (aNil)))) (aNil))))) (envD pl bw x kv u4 (.fro (.int q.2)) (.fro (rd q.1)) u7 u8) = .ok ([.tup [.int q.1.1, .int q.1.2.1], .tup [.int q.1.2.1, .int q.1.1]], envD pl bw x kv u4 (.fro (.int q.2)) (.fro (rd q.1)) u7 u8) := by
      simp [envD, x0, x1, z2]
    rw [bodyP, z_sFor, e, Res.bind_ok]
    have g1 : gP (.tup [.int q.1.1, .int q.1.2.1]) (envD pl bw x kv u4 (.fro (.int q.2)) (.fro (rd q.1)) u7 u8) = .ok (envD pl bw x kv u4 (.fro (.int q.2)) (.fro (rd q.1)) (.fro (.int q.1.1)) (.fro (.int q.1.2.1))) := by simp [gP, envD]
    have g2 : gP (.tup [.int q.1.2.1, .int q.1.1]) (envD pl bw x k1 u4 (.fro (.int q.2)) (.fro (rd q.1)) (.fro (.int q.1.1)) (.fro (.int q.1.2.1))) = .ok (envD pl bw x k1 u4 (.fro (.int q.2)) (.fro (rd q.1)) (.fro (.int q.1.2.1)) (.fro (.int q.1.1))) := by simp [gP, envD]
    show forL gP bodyD [_, _] _ = _
    rw [forL, g1, Res.bind_ok, s1, Res.bind_ok]
    show forL gP bodyD [_] _ = _
    rw [forL, g2, Res.bind_ok, s2, Res.bind_ok]; rfl
  · unfold step
    split
    · rename_i hw; rw [if_pos hw, if_pos hw] at d2; exact d2
    · rename_i hw; rw [if_neg hw, if_neg hw] at d2; exact d2
theorem loopW {pl : D} {x : Int} (hin : Bar w bw) (h6 : p.P ≤ 6) : ∀ (qs : List (Rd × Nat)) (kv : KVs) (b : Vs) (u4 u5 u6 u7 u8 : Cell), (∀ q ∈ qs, RdOk p.P q.1) → DB p.P kv b →
    ∃ kv' v5 v6 v7 v8, forL gW bodyP (qs.map fun q => .tup [.int (q.2 : Nat), rd q.1]) (envD pl bw x kv u4 u5 u6 u7 u8) = .ok (.nx, envD pl bw x kv' u4 v5 v6 v7 v8) ∧ DB p.P kv' (qs.foldl (step w) b)
  | [], kv, b, u4, u5, u6, u7, u8, _, hd => ⟨kv, u5, u6, u7, u8, rfl, hd⟩
  | q :: qs, kv, b, u4, u5, u6, u7, u8, hq, hd => by
    obtain ⟨k1, x7, x8, s1, d1⟩ := bodyP_ok (pl := pl) (x := x) (u4 := u4) (u7 := u7) (u8 := u8) hin (hq q (List.mem_cons_self ..)) hd h6
    obtain ⟨k2, v5, v6, v7, v8, ih, d2⟩ := loopW (pl := pl) (x := x) hin h6 qs k1 (step w b q) u4 (.fro (.int q.2)) (.fro (rd q.1)) x7 x8 (fun r hr => hq r (List.mem_cons_of_mem _ hr)) d1
    refine ⟨k2, v5, v6, v7, v8, ?_, d2⟩
    have hg : gW (.tup [.int (q.2 : Nat), rd q.1]) (envD pl bw x kv u4 u5 u6 u7 u8) = .ok (envD pl bw x kv u4 (.fro (.int q.2)) (.fro (rd q.1)) u7 u8) := by simp [gW, envD]
    rw [List.map_cons, forL, hg, Res.bind_ok, s1, Res.bind_ok]
    show forL gW bodyP _ _ = _
    rw [ih]
theorem loopV {x : Int} (hin : Bar w bw) (h6 : p.P ≤ 6) (h : ∀ r ∈ p.rs, RdOk p.P r) : ∀ (ds : List D) (kv : KVs) (b : Vs) (u4 u5 u6 u7 u8 : Cell), DB p.P kv b →
    ∃ kv' v4 v5 v6 v7 v8, forL (gN 4) (sFor gW (iEnumD (aCons (e2 oIx (eUse 0) (eC (.int 1))) (aNil))) bodyP) ds (envD p.pl bw x kv u4 u5 u6 u7 u8) = .ok (.nx, envD p.pl bw x kv' v4 v5 v6 v7 v8) ∧ DB p.P kv' (rounds p.rs w ds.length b)
  | [], kv, b, u4, u5, u6, u7, u8, hd => ⟨kv, u4, u5, u6, u7, u8, rfl, hd⟩
  | d :: ds, kv, b, u4, u5, u6, u7, u8, hd => by
    obtain ⟨k1, v5, v6, v7, v8, h1, d1⟩ := loopW (pl := p.pl) (x := x) hin h6 p.rs.zipIdx kv b (.fro d) u5 u6 u7 u8 (zip_ok h) hd
    obtain ⟨k2, x4, x5, x6, x7, x8, ih, d2⟩ := loopV hin h6 h ds k1 (round p.rs w b) (.fro d) v5 v6 v7 v8 d1
    refine ⟨k2, x4, x5, x6, x7, x8, ?_, d2⟩
    have hx : oIx p.pl (.int 1) = .ok (.fro (.tup (p.rs.map rd))) := rfl
    have hs : sFor gW (iEnumD (aCons (e2 oIx (eUse 0) (eC (.int 1))) (aNil))) bodyP (envD p.pl bw x kv (.fro d) u5 u6 u7 u8) = .ok (.nx, envD p.pl bw x k1 (.fro d) v5 v6 v7 v8) := by
      have e : (iEnumD (aCons (e2 oIx (eUse 0) (eC (.int 1))) (aNil))) (envD p.pl bw x kv (.fro d) u5 u6 u7 u8) = .ok (pairs (p.rs.map rd), envD p.pl bw x kv (.fro d) u5 u6 u7 u8) := by simp [envD, hx]
      rw [z_sFor, e, Res.bind_ok, pairs_map]
      exact h1
    rw [forL, show gN 4 d (envD p.pl bw x kv u4 u5 u6 u7 u8) = .ok (envD p.pl bw x kv (.fro d) u5 u6 u7 u8) from rfl, Res.bind_ok, hs, Res.bind_ok]
    show forL (gN 4) _ ds _ = _
    rw [ih]
theorem db_start {P x : Int} (x0 : 0 ≤ x) (xP : x < P) : DB P [(x, 0)] (start0 P x) := by
  have hl := start0_len P x
  refine ⟨fun u u0 uP => ?_, by simp, fun q hq => ?_, by omega⟩
  · rw [BF.gt_g, start0_g x0 xP]
    unfold kfind
    by_cases e : x = u
    · subst e; simp
    · have : ¬ u.toNat = x.toNat := by omega
      simp [e, this]
  · rw [List.mem_singleton.mp hq]; exact ⟨x0, xP⟩
def farBody : SF := sCons (sSet 3 (eDisp1 (eVar 2) (eC (.int 0)))) (sCons (sFor (gN 4) (iRange1 (aCons (e2 oIx (eUse 0) (eC (.int 0))) (aNil))) (sFor gW (iEnumD (aCons (e2 oIx (eUse 0) (eC (.int 1))) (aNil))) bodyP)) (sRet (eIf (bB (e2 (oDIn false) (e2 oIx (e2 oIx (eUse 0) (eC (.int 2))) (eC (.int 1))) (eUse 3))) (e2 oDGet (eUse 3) (e2 oIx (e2 oIx (eUse 0) (eC (.int 2))) (eC (.int 1)))) (eC .non))))
theorem far_is : F__law_far = runF 3 6 farBody := rfl
theorem m_farD (h : p.Gd) (hin : Bar w bw) {x : Int} (x0 : 0 ≤ x) (xP : x < p.P) : F__law_far [.fro p.pl, .fro bw, .fro (.int x)] = .ok (.fro (oD (lenTo p w x)), [.un, .un, .un]) := by
  obtain ⟨kv, v4, v5, v6, v7, v8, hl, hd⟩ := loopV (p := p) (w := w) (x := x) hin h.P6 h.rd (intsD 0 p.P.toNat) [(x, 0)] (start0 p.P x) .un .un .un .un .un (db_start x0 xP)
  have len : (intsD 0 p.P.toNat).length = p.P.toNat := by unfold intsD; rw [List.length_map, List.length_range]
  rw [len, rounds_still h.P2 h.rd x0 xP] at hd
  have eg := hd.eq p.g h.g0 h.gP
  have fg := dFind_K p.g kv
  rw [eg] at fg
  have e0 : sSet 3 (eDisp1 (eVar 2) (eC (.int 0))) [.fro p.pl, .fro bw, .fro (.int x), .un, .un, .un, .un, .un, .un] = .ok (.nx, envD p.pl bw x [(x, 0)] .un .un .un .un .un) := rfl
  have x0' : oIx p.pl (.int 0) = .ok (.fro (.int p.P)) := rfl
  have x2 : oIx p.pl (.int 2) = .ok (.fro (.tup [.int p.b, .int p.g])) := rfl
  have xg : oIx (.tup [.int p.b, .int p.g]) (.int 1) = .ok (.fro (.int p.g)) := rfl
  have sm : small p.P = true := by
    have := h.P2; have := h.P6
    unfold small
    rw [Bool.and_eq_true]
    exact ⟨decide_eq_true (by omega), decide_eq_true (by omega)⟩
  have er : (iRange1 (aCons (e2 oIx (eUse 0) (eC (.int 0))) (aNil))) (envD p.pl bw x [(x, 0)] .un .un .un .un .un) = .ok (intsD 0 p.P.toNat, envD p.pl bw x [(x, 0)] .un .un .un .un .un) := by
    simp [envD, x0', iRange1, sm]
  have ef : sRet (eIf (bB (e2 (oDIn false) (e2 oIx (e2 oIx (eUse 0) (eC (.int 2))) (eC (.int 1))) (eUse 3))) (e2 oDGet (eUse 3) (e2 oIx (e2 oIx (eUse 0) (eC (.int 2))) (eC (.int 1)))) (eC .non)) (envD p.pl bw x kv v4 v5 v6 v7 v8) = .ok (.ret (.fro (oD (lenTo p w x))), envD p.pl bw x kv v4 v5 v6 v7 v8) := by
    show _ = Res.ok (Fl.ret (RV.fro (oD (gt (rounds p.rs w (p.P - 1).toNat (start0 p.P x)) p.g))), _)
    cases hg : gt (rounds p.rs w (p.P - 1).toNat (start0 p.P x)) p.g with
    | none =>
      rw [hg] at fg
      have fg : dFind false (kv.map fun p => D.int p.1) (kv.map fun p => D.int p.2) (.int p.g) = none := fg
      simp [envD, x2, xg, dK, fg, oD]
    | some d =>
      rw [hg] at fg
      have fg : dFind false (kv.map fun p => D.int p.1) (kv.map fun p => D.int p.2) (.int p.g) = some (.int d) := fg
      simp [envD, x2, xg, dK, fg, oD]
  rw [far_is]
  have run : farBody [.fro p.pl, .fro bw, .fro (.int x), .un, .un, .un, .un, .un, .un] = .ok (.ret (.fro (oD (lenTo p w x))), envD p.pl bw x kv v4 v5 v6 v7 v8) := by
    rw [farBody, z_sCons, e0, Res.bind_ok]
    show sCons _ _ _ = _
    rw [z_sCons, z_sFor, er, Res.bind_ok, hl, Res.bind_ok]
    exact ef
  show runF 3 6 farBody ([.fro p.pl, .fro bw, .fro (.int x)] : List Cell) = _
  rw [z_runF]
  show (farBody ([.fro p.pl, .fro bw, .fro (.int x), .un, .un, .un, .un, .un, .un] : Env)).bind _ = _
  rw [run]; rfl
end
end Dt
end

section
set_option Elab.async false
set_option linter.all false
set_option maxRecDepth 100000
set_option maxHeartbeats 4000000
set_option autoImplicit false
namespace Dt
open PySem PySem.Spec PyProof.Rows L2
@[simp] theorem z_oIsN (d : D) : oIsN d .non = .ok (.fro (.bl d.isN)) := rfl
@[simp] theorem z_oNotN (d : D) : oNotN d .non = .ok (.fro (.bl (!d.isN))) := rfl
section
variable {p : Pl} {w free shut : List Int} {bw : D} {x : Int}
theorem ix_road {i : Nat} {q : Rd} (h : p.rs[i]? = some q) : oIx (.tup (p.rs.map rd)) (.int (i : Nat)) = .ok (.fro (rd q)) := by
  show (Res.of (L2.atI (p.rs.map rd) (i : Int))).bind _ = _
  have hl := (List.getElem?_eq_some_iff.mp h).1
  have e : L2.ixN (p.rs.map rd).length (i : Int) = some i := by
    unfold L2.ixN
    simp [hl]
  unfold L2.atI
  rw [e]
  show (Res.of ((p.rs.map rd)[i]?)).bind _ = _
  rw [List.getElem?_map, h]; rfl
theorem m_over {r : Int} (hr : r ∈ atR p.rs x) : F__law_over [.fro p.pl, .fro (.int r), .fro (.int x)] = .ok (.fro (.int (ovr p.rs r x)), [.un, .un, .un]) := by
  obtain ⟨i, q, rfl, h1, _⟩ := at_mem.mp hr
  have e := ix_road h1
  have e0 : oIx p.pl (.int 1) = .ok (.fro (.tup (p.rs.map rd))) := rfl
  have e1 : oIx (rd q) (.int 0) = .ok (.fro (.int q.1)) := rfl
  have e3 : oIx (rd q) (.int 1) = .ok (.fro (.int q.2.1)) := rfl
  have o : ovr p.rs (i : Int) x = q.1 + q.2.1 - x := by unfold ovr; rw [Int.toNat_natCast, h1]
  rw [o]
  simp [F__law_over, e0, e, e1, e3]
def yOne : D → D
  | .tup (.int a :: .int b :: _) => .tup [.int a, .int b, .int 1]
  | d => d
theorem m_few (h : p.Gd) (hin : Bar w bw) (x0 : 0 ≤ x) (xP : x < p.P) : F__law_few [.fro p.pl, .fro bw, .fro (.int x)] = .ok (.fro (oD (lenTo p.ones w x)), [.un, .un, .un]) := by
  have s3 : 3 ≤ sizeLine := by decide
  have s4 : 4 ≤ sizeLine := by decide
  have hl : lcL (gN 4) [4] bYes (eTup (aCons (e2 oIx (eUse 4) (eC (.int 0))) (aCons (e2 oIx (eUse 4) (eC (.int 1))) (aCons (eC (.int 1)) (aNil))))) (p.rs.map rd) [.fro p.pl, .fro bw, .fro (.int x), .un, .un] [] = .ok (p.ones.rs.map rd, [.fro p.pl, .fro bw, .fro (.int x), .un, .un]) := by
    rw [lcL_map (fun _ => true) yOne (fun d hd => ?_) (by have := h.r8; simp; exact sl8 (by omega))]
    · congr 2
      show [] ++ ((p.rs.map rd).filter fun _ => true).map yOne = (p.rs.map _).map rd
      have ft : ∀ l : List D, l.filter (fun _ => true) = l := fun l => by induction l with | nil => rfl | cons a l ih => simp [ih]
      rw [ft, List.map_map, List.map_map]; rfl
    · obtain ⟨q, _, rfl⟩ := List.mem_map.mp hd
      have e1 : oIx (rd q) (.int 0) = .ok (.fro (.int q.1)) := rfl
      have e3 : oIx (rd q) (.int 1) = .ok (.fro (.int q.2.1)) := rfl
      exact ⟨[.fro p.pl, .fro bw, .fro (.int x), .un, .fro (rd q)], [.fro p.pl, .fro bw, .fro (.int x), .un, .fro (rd q)], by simp, rfl, fun _ => rfl, fun _ => ⟨.fro (yOne (rd q)), [.fro p.pl, .fro bw, .fro (.int x), .un, .fro (rd q)], by simp [e1, e3, s3]; rfl, rfl, rfl⟩⟩
  have e0 : oIx p.pl (.int 0) = .ok (.fro (.int p.P)) := rfl
  have e1 : oIx p.pl (.int 1) = .ok (.fro (.tup (p.rs.map rd))) := rfl
  have e2' : oIx p.pl (.int 2) = .ok (.fro (.tup [.int p.b, .int p.g])) := rfl
  have e3 : oIx p.pl (.int 3) = .ok (.fro (.int p.m)) := rfl
  have hf := m_farD h.ones hin x0 xP
  have hpl : D.tup [.int p.P, .tup (p.ones.rs.map rd), .tup [.int p.b, .int p.g], .int p.m] = p.ones.pl := rfl
  simp [F__law_few, e0, e1, e2', e3, hl, s4, hpl, hf]
/-- the rest of a road by a rule -/
def restOf (p : Pl) (free shut : List Int) : Ru → Int → Int → Option Int
  | .near, x, r => restW p shut x r
  | .few, x, r => restW p.ones shut x r
  | .known, x, r => restW p (compl p.rs.length free) x r
def ruS : Ru → Str
  | .near => "near"
  | .few => "few"
  | .known => "known"
theorem lenR_at {i : Nat} {q : Rd} (h : p.rs[i]? = some q) : lenR p.rs (i : Int) = q.2.2 := by unfold lenR; rw [Int.toNat_natCast, h]
theorem lenR_one {i : Nat} {q : Rd} (h : p.rs[i]? = some q) : lenR p.ones.rs (i : Int) = 1 := by
  have e : p.ones.rs[i]? = some (q.1, q.2.1, 1) := by
    show (p.rs.map fun q : Rd => (q.1, q.2.1, (1 : Int)))[i]? = _
    rw [ones_get, h]; rfl
  exact lenR_at e
theorem oEq_of {a b : Str} {c : Bool} (h : D.eqv (.str a) (.str b) = some c) : oEq (.str a) (.str b) = .ok (.fro (.bl c)) := by unfold oEq; rw [h]; rfl
theorem eq_ff : oEq (.str (ruS .few)) (.str "few") = .ok (.fro (.bl true)) := oEq_of (by decide +kernel)
theorem eq_nf : oEq (.str (ruS .near)) (.str "few") = .ok (.fro (.bl false)) := oEq_of (by decide +kernel)
theorem eq_kf : oEq (.str (ruS .known)) (.str "few") = .ok (.fro (.bl false)) := oEq_of (by decide +kernel)
theorem eq_fk : oEq (.str (ruS .few)) (.str "known") = .ok (.fro (.bl false)) := oEq_of (by decide +kernel)
theorem eq_nk : oEq (.str (ruS .near)) (.str "known") = .ok (.fro (.bl false)) := oEq_of (by decide +kernel)
theorem eq_kk : oEq (.str (ruS .known)) (.str "known") = .ok (.fro (.bl true)) := oEq_of (by decide +kernel)
/-! ### the rest of a road -/
theorem lc_compl {ρ0 : Env} {n : Nat} (n8 : n ≤ 8) (hi : ρ0[10]? = some .un) (h1 : ρ0[1]? = some (.fro (.lst (Li free)))) : lcL (gN 10) [10] (bB (e2 (oIn true) (eUse 10) (eUse 1))) (eVar 10) (intsD 0 n) ρ0 [] = .ok (Li (compl n free), ρ0) := by
  have e : intsD 0 n = (((List.range n).map fun i : Nat => (i : Int)).map D.int) := by
    unfold intsD
    rw [List.map_map]
    refine List.map_congr_left fun i _ => ?_
    show D.int (0 + (i : Int)) = .int (i : Int)
    rw [Int.zero_add]
  rw [e]
  refine lc_ints (fun r => !free.contains r) (fun r hr => ?_) hi (by rw [List.length_map, List.length_range]; exact sl8 (by omega))
  have hlt : 10 < ρ0.length := (List.getElem?_eq_some_iff.mp hi).1
  have g10 : (ρ0.set 10 (.fro (.int r)))[10]? = some (.fro (.int r)) := List.getElem?_set_self hlt
  have g1 : (ρ0.set 10 (.fro (.int r)))[1]? = some (.fro (.lst (Li free))) := by rw [List.getElem?_set_ne (by decide)]; exact h1
  have u10 : eUse 10 (ρ0.set 10 (.fro (.int r))) = .ok (.fro (.int r), ρ0.set 10 (.fro (.int r))) := by unfold eUse; rw [g10]
  have u1 : eUse 1 (ρ0.set 10 (.fro (.int r))) = .ok (.fro (.lst (Li free)), ρ0.set 10 (.fro (.int r))) := by unfold eUse; rw [g1]
  have d1 : deref (ρ0.set 10 (.fro (.int r))) (.fro (.int r)) = some (.int r) := rfl
  have o := oIn_lst true r free
  simp only [bB, getD, e2, u10, u1, Res.bind_ok, RV.hold, deref, Res.of_some]
  rw [show Li free = free.map D.int from rfl, o]
  simp
def rD (free shut : List Int) (ru : Ru) (p : Pl) (x r : Int) : List Cell := [.fro p.pl, .fro (.lst (Li free)), .fro (.lst (Li shut)), .fro (.str (ruS ru)), .fro (.tup [.int x, .int r])]
theorem range_roads (h : p.Gd) {ρ : Env} (h0 : ρ[0]? = some (.fro p.pl)) : iRange1 (aCons (eCB (c1 oLen) (aCons (e2 oIx (eUse 0) (eC (.int 1))) (aNil))) (aNil)) ρ = .ok (intsD 0 p.rs.length, ρ) := by
  have e1 : oIx p.pl (.int 1) = .ok (.fro (.tup (p.rs.map rd))) := rfl
  have sm : small (p.rs.length : Int) = true := by
    have := h.r8
    unfold small
    rw [Bool.and_eq_true]
    exact ⟨decide_eq_true (by omega), decide_eq_true (by omega)⟩
  have u0 : eUse 0 ρ = .ok (.fro p.pl, ρ) := by unfold eUse; rw [h0]
  have a : (aCons (eCB (c1 oLen) (aCons (e2 oIx (eUse 0) (eC (.int 1))) (aNil))) (aNil)) ρ = .ok ([.fro (.int p.rs.length)], ρ) := by simp [h0, e1]
  unfold iRange1
  rw [a, Res.bind_ok]
  show (if small (p.rs.length : Int) = true then _ else _) = _
  rw [if_pos sm, Int.toNat_natCast]
theorem m_rest_few (h : p.Gd) {r : Int} (hr : r ∈ atR p.rs x) : F__law_rest (rD free shut .few p x r) = .ok (.fro (oD (restOf p free shut .few x r)), [.un, .un, .un, .un, .un]) := by
  obtain ⟨y0, yP, _⟩ := ovr_in h hr
  have ho := m_over hr
  obtain ⟨i, q, rfl, h1, _⟩ := at_mem.mp hr
  have ei := ix_road h1
  have e1 : oIx p.pl (.int 1) = .ok (.fro (.tup (p.rs.map rd))) := rfl
  have el : oIx (rd q) (.int 2) = .ok (.fro (.int q.2.2)) := rfl
  have eo : ovr p.ones.rs (i : Int) x = ovr p.rs (i : Int) x := ovr_ones p.rs _ _
  have hf := m_few h (bar_lst shut) y0 yP
  have e : restOf p free shut .few x (i : Int) = (lenTo p.ones shut (ovr p.rs (i : Int) x)).map (· + 1) := by
    show restW p.ones shut x (i : Int) = _
    unfold restW
    rw [eo, lenR_one h1]
  rw [e]
  cases hz : lenTo p.ones shut (ovr p.rs (i : Int) x) with
  | none => rw [hz] at hf; simp [F__law_rest, rD, ho, eq_ff, hf, oD, D.isN]
  | some z => rw [hz] at hf; simp [F__law_rest, rD, ho, eq_ff, hf, oD, D.isN]
theorem m_rest_near (h : p.Gd) {r : Int} (hr : r ∈ atR p.rs x) : F__law_rest (rD free shut .near p x r) = .ok (.fro (oD (restOf p free shut .near x r)), [.un, .un, .un, .un, .un]) := by
  obtain ⟨y0, yP, _⟩ := ovr_in h hr
  have ho := m_over hr
  obtain ⟨i, q, rfl, h1, _⟩ := at_mem.mp hr
  have ei := ix_road h1
  have e1 : oIx p.pl (.int 1) = .ok (.fro (.tup (p.rs.map rd))) := rfl
  have el : oIx (rd q) (.int 2) = .ok (.fro (.int q.2.2)) := rfl
  have eo : ovr p.ones.rs (i : Int) x = ovr p.rs (i : Int) x := ovr_ones p.rs _ _
  have hf := m_farD h (bar_lst shut) y0 yP
  have e : restOf p free shut .near x (i : Int) = (lenTo p shut (ovr p.rs (i : Int) x)).map (· + q.2.2) := by
    show restW p shut x (i : Int) = _
    unfold restW
    rw [lenR_at h1]
  rw [e]
  cases hz : lenTo p shut (ovr p.rs (i : Int) x) with
  | none => rw [hz] at hf; simp [F__law_rest, rD, ho, eq_nf, eq_nk, hf, oD, D.isN]
  | some z => rw [hz] at hf; simp [F__law_rest, rD, ho, eq_nf, eq_nk, hf, oD, D.isN, e1, ei, el]
theorem w_known {pl fr sh : D} {x r y : Int} {cl : List Int} {way : D} {roads : D} {l : Int} {o : Option Int} {n : Nat} (OV FA FE : Fm) (hOV : OV [.fro pl, .fro (.int r), .fro (.int x)] = .ok (.fro (.int y), [.un, .un, .un]))
    (hR : iRange1 (aCons (eCB (c1 oLen) (aCons (e2 oIx (eUse 0) (eC (.int 1))) (aNil))) (aNil)) [.fro pl, .fro fr, .fro sh, .fro (.str (ruS .known)), .fro (.tup [.int x, .int r]), .fro (.int y), .fro sh, .un, .fro (.int x), .fro (.int r), .un] = .ok (intsD 0 n, [.fro pl, .fro fr, .fro sh, .fro (.str (ruS .known)), .fro (.tup [.int x, .int r]), .fro (.int y), .fro sh, .un, .fro (.int x), .fro (.int r), .un]))
    (hC : lcL (gN 10) [10] (bB (e2 (oIn true) (eUse 10) (eUse 1))) (eVar 10) (intsD 0 n) [.fro pl, .fro fr, .fro sh, .fro (.str (ruS .known)), .fro (.tup [.int x, .int r]), .fro (.int y), .fro sh, .un, .fro (.int x), .fro (.int r), .un] [] = .ok (Li cl, [.fro pl, .fro fr, .fro sh, .fro (.str (ruS .known)), .fro (.tup [.int x, .int r]), .fro (.int y), .fro sh, .un, .fro (.int x), .fro (.int r), .un]))
    (hF : FA [.fro pl, .fro (.lst (Li cl)), .fro (.int y)] = .ok (.fro (oD o), [.un, .un, .un])) (e1 : oIx pl (.int 1) = .ok (.fro roads)) (e2' : oIx roads (.int r) = .ok (.fro way)) (e3 : oIx way (.int 2) = .ok (.fro (.int l))) :
    (runF 5 6 (sCons (sAsg (gT 2 (gsCons (gN 8) (gsCons (gN 9) (gsNil)))) (eVar 4)) (sCons (sSet 5 (eCall OV (aCons (eVar 0) (aCons (eVar 9) (aCons (eVar 8) (aNil)))))) (sCons (sIf (bB (e2 oEq (eUse 3) (eC (.str "few")))) (sCons (sSet 7 (eCall FE (aCons (eVar 0) (aCons (eVar 2) (aCons (eVar 5) (aNil)))))) (sRet (eIf (bB (e2 oIsN (eUse 7) (eC .non))) (eC .non) (e2 oCat (eUse 7) (eC (.int 1)))))) (sNil)) (sCons (sSet 6 (eVar 2)) (sCons (sIf (bB (e2 oEq (eUse 3) (eC (.str "known")))) (sSet 6 (eLc (gN 10) [10] (iRange1 (aCons (eCB (c1 oLen) (aCons (e2 oIx (eUse 0) (eC (.int 1))) (aNil))) (aNil))) (bB (e2 (oIn true) (eUse 10) (eUse 1))) (eVar 10))) (sNil)) (sCons (sSet 7 (eCall FA (aCons (eVar 0) (aCons (eVar 6) (aCons (eVar 5) (aNil)))))) (sRet (eIf (bB (e2 oIsN (eUse 7) (eC .non))) (eC .non) (e2 oCat (eUse 7) (e2 oIx (e2 oIx (e2 oIx (eUse 0) (eC (.int 1))) (eUse 9)) (eC (.int 2))))))))))))) [.fro pl, .fro fr, .fro sh, .fro (.str (ruS .known)), .fro (.tup [.int x, .int r])] = .ok (.fro (oD (o.map (· + l))), [.un, .un, .un, .un, .un]) := by
  cases o with
  | none => simp [hOV, eq_kf, eq_kk, hR, hC, hF, oD, D.isN]
  | some z => simp [hOV, eq_kf, eq_kk, hR, hC, hF, oD, D.isN, e1, e2', e3]
theorem m_rest_known (h : p.Gd) {r : Int} (hr : r ∈ atR p.rs x) : F__law_rest (rD free shut .known p x r) = .ok (.fro (oD (restOf p free shut .known x r)), [.un, .un, .un, .un, .un]) := by
  obtain ⟨y0, yP, _⟩ := ovr_in h hr
  have ho := m_over hr
  obtain ⟨i, q, rfl, h1, _⟩ := at_mem.mp hr
  have e : restOf p free shut .known x (i : Int) = (lenTo p (compl p.rs.length free) (ovr p.rs (i : Int) x)).map (· + q.2.2) := by
    show restW p (compl p.rs.length free) x (i : Int) = _
    unfold restW
    rw [lenR_at h1]
  rw [e]
  exact w_known F__law_over F__law_far F__law_few ho (range_roads h rfl) (lc_compl h.r8 rfl rfl) (m_farD h (bar_lst _) y0 yP) rfl (ix_road h1) rfl
theorem m_rest (h : p.Gd) (ru : Ru) {r : Int} (hr : r ∈ atR p.rs x) : F__law_rest (rD free shut ru p x r) = .ok (.fro (oD (restOf p free shut ru x r)), [.un, .un, .un, .un, .un]) := by
  cases ru with
  | few => exact m_rest_few h hr
  | near => exact m_rest_near h hr
  | known => exact m_rest_known h hr
end
end Dt
end

section
set_option Elab.async false
set_option linter.all false
set_option maxRecDepth 100000
set_option maxHeartbeats 4000000
set_option autoImplicit false
namespace Dt
open PySem PySem.Spec PyProof.Rows L2

/-! ### rows as data, their least -/
def rowD (a : Int × Int) : D := .tup [.int a.1, .int a.2]
theorem gd_rows (l : List (Int × Int)) : Gd 2 (.lst (l.map rowD)) := .lst fun d hd => by
  obtain ⟨a, _, rfl⟩ := List.mem_map.mp hd
  exact .tup fun e he => by
    simp at he
    rcases he with rfl | rfl <;> exact .int _
theorem eqv_nil {n : Nat} {xs : List D} (h : Gd n (.lst xs)) (hn : n ≤ 64 := by decide) : D.eqv (.lst xs) (.lst []) = some xs.isEmpty := by
  obtain ⟨p, h1, h2, h3⟩ := h.py
  have hs : SeqAt.shaped p = true := by
    unfold SeqAt.shaped
    rw [h2, decide_eq_true (Nat.le_trans h3 hn)]; rfl
  have h0 : (D.lst []).py = some (.list []) := rfl
  have hs0 : SeqAt.shaped (.list []) = true := by decide +kernel
  unfold D.eqv
  rw [h1, h0]
  simp only [hs, hs0, Bool.and_self, if_true]
  cases xs with
  | nil =>
    rw [h0] at h1; cases h1
    rfl
  | cons x xs =>
    rw [D.py] at h1
    obtain ⟨ps, e, rfl⟩ := Option.map_eq_some_iff.mp h1
    rw [D.pys] at e
    split at e
    · cases e
      simp [PyData.eqv, PyData.eqvAll]
    · cases e
theorem rows_eq (l : List (Int × Int)) : oEq (.lst (l.map rowD)) (.lst []) = .ok (.fro (.bl l.isEmpty)) := by
  unfold oEq
  rw [eqv_nil (gd_rows l)]
  cases l <;> rfl
theorem rows_ne (l : List (Int × Int)) : oNe (.lst (l.map rowD)) (.lst []) = .ok (.fro (.bl (!l.isEmpty))) := by
  unfold oNe
  rw [eqv_nil (gd_rows l)]
  cases l <;> rfl
def k2 (a : Int × Int) : List Int := [a.1, a.2]
theorem lex_less (a b : Int × Int) : HT.lexLt (k2 a) (k2 b) = lessR a b := by
  unfold k2 lessR
  rw [HT.lexLt_cons, HT.lexLt_cons, HT.lexLt_nil_nil]
  by_cases h : a.1 = b.1
  · rw [if_pos h, if_pos h]
    by_cases h2 : a.2 = b.2
    · rw [if_pos h2, h2]; simp
    · rw [if_neg h2]
  · rw [if_neg h, if_neg h]
theorem lessR_trans {a b c : Int × Int} (h1 : ¬ lessR b a = true) (h2 : ¬ lessR c b = true) : ¬ lessR c a = true := by
  unfold lessR at *
  intro h3
  split at h1 <;> split at h2 <;> split at h3 <;> simp only [decide_eq_true_eq] at h1 h2 h3 <;> omega
theorem lessR_asym {a b : Int × Int} (h : lessR a b = true) : ¬ lessR b a = true := by
  unfold lessR at *
  intro h3
  split at h <;> split at h3 <;> simp only [decide_eq_true_eq] at h h3 <;> omega
theorem lessR_eq {a b : Int × Int} (h1 : ¬ lessR b a = true) (h2 : ¬ lessR a b = true) : a = b := by
  unfold lessR at *
  split at h1 <;> split at h2 <;> simp only [decide_eq_true_eq] at h1 h2
  · exact Prod.ext (by omega) (by omega)
  · omega
  · omega
  · omega
theorem lessR_self (a : Int × Int) : ¬ lessR a a = true := by unfold lessR; simp
theorem minRow_lex : ∀ {l : List (Int × Int)} {a b : Int × Int}, minRow l = some a → b ∈ l → ¬ lessR b a = true
  | c :: l, a, b, h, hb => by
    rw [minRow] at h
    split at h
    · rename_i e
      cases h
      rw [minRow_none e] at hb
      rw [List.mem_singleton.mp hb]; exact lessR_self _
    · rename_i d e
      split at h
      · rename_i z
        cases h
        rcases List.mem_cons.mp hb with rfl | hb
        · exact lessR_asym z
        · exact minRow_lex e hb
      · rename_i z
        cases h
        rcases List.mem_cons.mp hb with rfl | hb
        · exact lessR_self _
        · exact lessR_trans z (minRow_lex e hb)
theorem least_lex (k : Nat → Int × Int) : ∀ (j i : Nat), i ≤ j → leastAt (fun i => k2 (k i)) j ≤ j ∧ ¬ lessR (k i) (k (leastAt (fun i => k2 (k i)) j)) = true
  | 0, i, h => by
    have : i = 0 := by omega
    subst this
    exact ⟨Nat.le_refl _, lessR_self _⟩
  | j + 1, i, h => by
    rw [leastAt]
    by_cases z : HT.lexLt (k2 (k (j + 1))) (k2 (k (leastAt (fun i => k2 (k i)) j))) = true
    · rw [if_pos z]
      rw [lex_less] at z
      refine ⟨Nat.le_refl _, ?_⟩
      by_cases e : i = j + 1
      · rw [e]; exact lessR_self _
      · exact lessR_trans (lessR_asym z) (least_lex k j i (by omega)).2
    · rw [if_neg z]
      rw [lex_less] at z
      refine ⟨Nat.le_succ_of_le (least_lex k j 0 (Nat.zero_le _)).1, ?_⟩
      by_cases e : i = j + 1
      · rw [e]; exact z
      · exact (least_lex k j i (by omega)).2
theorem leastAt_congr {k k' : Nat → List Int} : ∀ (j : Nat), (∀ i, i ≤ j → k i = k' i) → leastAt k j = leastAt k' j
  | 0, _ => rfl
  | j + 1, h => by
    have ih := leastAt_congr j fun i hi => h i (by omega)
    have le : leastAt k' j ≤ j := by
      clear ih h
      induction j with
      | zero => exact Nat.le_refl _
      | succ j ih =>
        rw [leastAt]
        split
        · exact Nat.le_refl _
        · exact Nat.le_succ_of_le ih
    rw [leastAt, leastAt, ih, h (j + 1) (Nat.le_refl _), h _ (Nat.le_succ_of_le le)]
theorem tups_rows (l : List (Int × Int)) : D.tups (l.map rowD) = some (l.map k2) := by
  induction l with
  | nil => rfl
  | cons a l ih => rw [List.map_cons, List.map_cons]; show (match D.ints [.int a.1, .int a.2], D.tups (l.map rowD) with | some k, some ks => some (k :: ks) | _, _ => none) = _; rw [ih]; rfl
theorem min_rows {l : List (Int × Int)} {a : Int × Int} (h : minRow l = some a) : oMinAny (.lst (l.map rowD)) = .ok (.fro (rowD a)) := by
  have hl : 0 < l.length := List.length_pos_of_mem (minRow_mem h)
  have nn : (D.lst (l.map rowD)).nums = none := by
    cases l with
    | nil => cases h
    | cons b l => rfl
  have key : (l.map k2)[leastAt (fun i => (l.map k2).getD i []) ((l.map k2).length - 1)]? = some (k2 a) := by
    have cg : leastAt (fun i => (l.map k2).getD i []) ((l.map k2).length - 1) = leastAt (fun i => k2 (l.getD i (0, 0))) ((l.map k2).length - 1) := leastAt_congr _ fun i hi => by
      rw [List.length_map] at hi
      have : i < l.length := by omega
      simp [List.getD_eq_getElem?_getD, this]
    rw [cg, List.length_map]
    obtain ⟨h1, _⟩ := least_lex (fun i => l.getD i (0, 0)) (l.length - 1) 0 (Nat.zero_le _)
    generalize hj : leastAt (fun i => k2 (l.getD i (0, 0))) (l.length - 1) = j at h1
    have hjl : j < l.length := by omega
    have e : l[j] = a := by
      refine lessR_eq ?_ (minRow_lex h (List.getElem_mem hjl))
      obtain ⟨i, hi, rfl⟩ := List.getElem_of_mem (minRow_mem h)
      have q := (least_lex (fun i => l.getD i (0, 0)) (l.length - 1) i (by omega)).2
      rw [hj] at q
      simpa [List.getD_eq_getElem?_getD, hi, hjl] using q
    rw [List.getElem?_map, List.getElem?_eq_getElem hjl, e]; rfl
  unfold oMinAny
  rw [nn]
  show oMinT (.lst (l.map rowD)) = _
  show ((Res.of (D.tups (l.map rowD))).bind fun ks => (Res.of ks[leastAt (fun i => ks.getD i []) (ks.length - 1)]?).bind fun k => Res.ok (RV.fro (kD k))) = _
  rw [tups_rows]
  show (Res.of ((l.map k2)[leastAt (fun i => (l.map k2).getD i []) ((l.map k2).length - 1)]?)).bind _ = _
  rw [key]; rfl
end Dt
end

section
set_option Elab.async false
set_option linter.all false
set_option maxRecDepth 100000
set_option maxHeartbeats 4000000
set_option autoImplicit false
namespace Dt
open PySem PySem.Spec PyProof.Rows L2
section
variable {p : Pl} {free shut : List Int} {x : Int}
def rowsOf (p : Pl) (free shut : List Int) (ru : Ru) (x : Int) (l : List Int) : List (Int × Int) := l.filterMap fun r => if free.contains r then (restOf p free shut ru x r).map fun z => (z, r) else none
def bodyC (RST : Fm) : SF := sCons (sSet 7 (eIf (bB (e2 (oIn false) (eUse 6) (eUse 1))) (eCall RST (aCons (eVar 0) (aCons (eVar 1) (aCons (eVar 2) (aCons (eVar 3) (aCons (eTup (aCons (eVar 4) (aCons (eVar 6) (aNil)))) (aNil))))))) (eC .non))) (sSet 5 (e2 oCat (eUse 5) (eIf (bB (e2 oNotN (eUse 7) (eC .non))) (eLst (aCons (eTup (aCons (eVar 7) (aCons (eVar 6) (aNil)))) (aNil))) (eLst (aNil)))))
def envC (pl : D) (free shut : List Int) (ru : Str) (x : Int) (acc : List (Int × Int)) (u6 u7 : Cell) : Env := [.fro pl, .fro (.lst (Li free)), .fro (.lst (Li shut)), .fro (.str ru), .fro (.int x), .own (.lst (acc.map rowD)), u6, u7]
theorem bodyC_ok {pl : D} {ru : Str} {acc : List (Int × Int)} {r : Int} {u7 : Cell} {o : Option Int} (RST : Fm) (hR : free.contains r = true → RST [.fro pl, .fro (.lst (Li free)), .fro (.lst (Li shut)), .fro (.str ru), .fro (.tup [.int x, .int r])] = .ok (.fro (oD o), [.un, .un, .un, .un, .un])) (ha : acc.length ≤ 8) :
    ∃ v7, bodyC RST (envC pl free shut ru x acc (.fro (.int r)) u7) = .ok (.nx, envC pl free shut ru x (acc ++ (if free.contains r then (o.map fun z => (z, r)).toList else [])) (.fro (.int r)) v7) := by
  have s2 : 2 ≤ sizeLine := by decide
  have s1 : 1 ≤ sizeLine := by decide
  have s0 : 0 ≤ sizeLine := Nat.zero_le _
  have o1 := oIn_lst false r free
  have l1 : acc.length + 1 ≤ sizeLine := Nat.le_trans (show acc.length + 1 ≤ 9 by omega) (by decide)
  have l0 : acc.length ≤ sizeLine := Nat.le_trans (show acc.length ≤ 9 by omega) (by decide)
  have c0 : oCat (.lst (acc.map rowD)) (.lst []) = .ok (.own (.lst (acc.map rowD))) := by
    show (if (acc.map rowD).length + [].length ≤ sizeLine then _ else _) = _
    rw [if_pos (by simpa using l0), List.append_nil]
  have c1 : ∀ d : D, oCat (.lst (acc.map rowD)) (.lst [d]) = .ok (.own (.lst (acc.map rowD ++ [d]))) := fun d => by
    show (if (acc.map rowD).length + [d].length ≤ sizeLine then _ else _) = _
    rw [if_pos (by simpa using l1)]
  cases hf : free.contains r with
  | false =>
    rw [hf] at o1
    refine ⟨.fro .non, ?_⟩
    simp only [Li] at *
    simp [bodyC, envC, o1, D.isN, c0]
  | true =>
    rw [hf] at o1
    have hr := hR hf
    cases o with
    | none =>
      refine ⟨.fro .non, ?_⟩
      simp only [Li, oD] at *
      simp [bodyC, envC, o1, hr, s2, D.isN, c0]
    | some z =>
      refine ⟨.fro (.int z), ?_⟩
      simp only [Li, oD] at *
      simp [bodyC, envC, o1, hr, s2, s1, D.isN, c1, rowD]
theorem rows_cons (ru : Ru) (r : Int) (l : List Int) : rowsOf p free shut ru x (r :: l) = (if free.contains r then ((restOf p free shut ru x r).map fun z => (z, r)).toList else []) ++ rowsOf p free shut ru x l := by
  unfold rowsOf
  rw [List.filterMap_cons]
  cases free.contains r with
  | false => rfl
  | true =>
    rw [if_pos rfl, if_pos rfl]
    cases restOf p free shut ru x r <;> rfl
theorem loopC (h : p.Gd) (ru : Ru) : ∀ (l : List Int) (acc : List (Int × Int)) (u6 u7 : Cell), (∀ r ∈ l, r ∈ atR p.rs x) → acc.length + l.length ≤ 8 →
    ∃ v6 v7, forL (gN 6) (bodyC F__law_rest) (Li l) (envC p.pl free shut (ruS ru) x acc u6 u7) = .ok (.nx, envC p.pl free shut (ruS ru) x (acc ++ rowsOf p free shut ru x l) v6 v7)
  | [], acc, u6, u7, _, _ => ⟨u6, u7, by show Res.ok _ = _; unfold rowsOf; simp⟩
  | r :: l, acc, u6, u7, hl, hn => by
    rw [List.length_cons] at hn
    obtain ⟨v7, s1⟩ := bodyC_ok (pl := p.pl) (ru := ruS ru) (x := x) (free := free) (shut := shut) (acc := acc) (r := r) (u7 := u7) F__law_rest (fun _ => m_rest h ru (hl r (List.mem_cons_self ..))) (by omega)
    have ln : (if free.contains r then ((restOf p free shut ru x r).map fun z => (z, r)).toList else []).length ≤ 1 := by
      split
      · cases restOf p free shut ru x r <;> simp
      · simp
    obtain ⟨w6, w7, ih⟩ := loopC h ru l (acc ++ (if free.contains r then ((restOf p free shut ru x r).map fun z => (z, r)).toList else [])) (.fro (.int r)) v7 (fun a ha => hl a (List.mem_cons_of_mem _ ha)) (by rw [List.length_append]; omega)
    refine ⟨w6, w7, ?_⟩
    have hg : gN 6 (.int r) (envC p.pl free shut (ruS ru) x acc u6 u7) = .ok (envC p.pl free shut (ruS ru) x acc (.fro (.int r)) u7) := rfl
    show forL (gN 6) _ (.int r :: Li l) _ = _
    rw [forL, hg, Res.bind_ok, s1, Res.bind_ok]
    show forL (gN 6) _ (Li l) _ = _
    rw [ih, rows_cons, List.append_assoc]
/-- what a choice without another look is -/
def pickOf (p : Pl) (free shut : List Int) (ru : Ru) (x : Int) : Option Int := (minRow (rowsOf p free shut ru x (atR p.rs x))).map (·.2)
def tailC : SF := sRet (eIf (bB (e2 oNe (eUse 5) (eLst (aNil)))) (e2 oIx (eCB (c1 oMinAny) (aCons (eUse 5) (aNil))) (eC (.int 1))) (eC .non))
theorem tailC_ok {pl : D} {ru : Str} {acc : List (Int × Int)} {u6 u7 : Cell} : tailC (envC pl free shut ru x acc u6 u7) = .ok (.ret (.fro (oD ((minRow acc).map (·.2)))), envC pl free shut ru x acc u6 u7) := by
  have n := rows_ne acc
  have s0 : 0 ≤ sizeLine := Nat.zero_le _
  cases h : minRow acc with
  | none =>
    have e := minRow_none h
    subst e
    simp only [List.map_nil, List.isEmpty_nil, Bool.not_true] at n
    simp [tailC, envC, n, oD]
  | some a =>
    have m := min_rows h
    have ne : acc.isEmpty = false := by
      cases acc with
      | nil => cases h
      | cons _ _ => rfl
    rw [ne] at n
    have e1 : oIx (rowD a) (.int 1) = .ok (.fro (.int a.2)) := rfl
    simp [tailC, envC, n, m, e1, oD]
end
end Dt
end

section
set_option Elab.async false
set_option linter.all false
set_option maxRecDepth 100000
set_option maxHeartbeats 4000000
set_option autoImplicit false
namespace Dt
open PySem PySem.Spec PyProof.Rows L2
section
variable {p : Pl} {free shut : List Int} {x : Int}
def chBody (AT : Fm) (BC : SF) (X : EF) : SF := sCons (sSet 5 (eLst (aNil))) (sCons (sFor (gN 6) (iData (eCall AT (aCons (eVar 0) (aCons (eVar 4) (aNil))))) BC) (sCons (sIf (bAnd (bB (e2 oEq (eUse 5) (eLst (aNil)))) (bB (e2 oEq (eUse 3) (eC (.str "known"))))) (sRet X) (sNil)) tailC))
theorem ch_run {pl : D} {ru : Str} {l : List Int} {rows : List (Int × Int)} {v6 v7 : Cell} {k : Bool} (AT : Fm) (BC : SF) (X : EF) (hAT : AT [.fro pl, .fro (.int x)] = .ok (.own (.lst (Li l)), [.un, .un]))
    (hl : forL (gN 6) BC (Li l) (envC pl free shut ru x [] .un .un) = .ok (.nx, envC pl free shut ru x rows v6 v7)) (hk : oEq (.str ru) (.str "known") = .ok (.fro (.bl k))) :
    chBody AT BC X [.fro pl, .fro (.lst (Li free)), .fro (.lst (Li shut)), .fro (.str ru), .fro (.int x), .un, .un, .un] = if (rows.isEmpty && k) = true then (sRet X) (envC pl free shut ru x rows v6 v7) else .ok (.ret (.fro (oD ((minRow rows).map (·.2)))), envC pl free shut ru x rows v6 v7) := by
  have s0 : 0 ≤ sizeLine := Nat.zero_le _
  have e0 : sSet 5 (eLst (aNil)) [.fro pl, .fro (.lst (Li free)), .fro (.lst (Li shut)), .fro (.str ru), .fro (.int x), .un, .un, .un] = .ok (.nx, envC pl free shut ru x [] .un .un) := by simp [envC, s0]
  have e1 : (iData (eCall AT (aCons (eVar 0) (aCons (eVar 4) (aNil))))) (envC pl free shut ru x [] .un .un) = .ok (Li l, envC pl free shut ru x [] .un .un) := by simp [envC, hAT]
  have n := rows_eq rows
  have ec : (bAnd (bB (e2 oEq (eUse 5) (eLst (aNil)))) (bB (e2 oEq (eUse 3) (eC (.str "known"))))) (envC pl free shut ru x rows v6 v7) = .ok (rows.isEmpty && k, envC pl free shut ru x rows v6 v7) := by
    cases hr : rows.isEmpty with
    | false => rw [hr] at n; simp [envC, n]
    | true => rw [hr] at n; simp [envC, n, hk]
  rw [chBody, z_sCons, e0, Res.bind_ok]
  show sCons _ _ _ = _
  rw [z_sCons, z_sFor, e1, Res.bind_ok, hl, Res.bind_ok]
  show sCons _ _ _ = _
  rw [z_sCons, z_sIf, ec, Res.bind_ok]
  cases hr : (rows.isEmpty && k) with
  | false =>
    show tailC _ = _
    rw [tailC_ok]; rfl
  | true =>
    show (sRet X (envC pl free shut ru x rows v6 v7)).bind _ = sRet X (envC pl free shut ru x rows v6 v7)
    rw [z_sRet]
    cases X (envC pl free shut ru x rows v6 v7) with
    | ok a => rfl
    | err c d => rfl
    | bad => rfl
theorem ch0_is : F__law_choice_0 = runF 5 3 (chBody F__law_at (bodyC F__law_rest) eBad) := rfl
theorem ch_is : F__law_choice = runF 5 3 (chBody F__law_at (bodyC F__law_rest) (eCall F__law_choice_0 (aCons (eVar 0) (aCons (eVar 1) (aCons (eVar 2) (aCons (eC (.str "near")) (aCons (eVar 4) (aNil)))))))) := rfl
theorem run5 {b : SF} {c0 c1 c2 c3 c4 : Cell} {r : D} {ρ : Env} (h : b [c0, c1, c2, c3, c4, .un, .un, .un] = .ok (.ret (.fro r), ρ)) (hl : 5 ≤ ρ.length) : runF 5 3 b [c0, c1, c2, c3, c4] = .ok (.fro r, (ρ.take 5).map outC) := by
  rw [z_runF]
  show (b [c0, c1, c2, c3, c4, .un, .un, .un]).bind _ = _
  rw [h, Res.bind_ok, if_pos hl]
theorem pick_near (p : Pl) (free shut : List Int) (x : Int) : pickOf p free shut .near x = choose p shut free x := rfl
theorem pick_few (p : Pl) (free shut : List Int) (x : Int) : pickOf p free shut .few x = choose p.ones shut free x := by
  have e : atR p.ones.rs x = atR p.rs x := atR_ones p.rs x
  unfold choose rowsW
  rw [e]; rfl
theorem pick_known (p : Pl) (free shut : List Int) (x : Int) : pickOf p free shut .known x = choose p (compl p.rs.length free) free x := rfl
theorem at_len (h : p.Gd) : (atR p.rs x).length ≤ 8 := by
  unfold atR
  rw [List.length_map]
  exact Nat.le_trans (List.length_filter_le ..) (by rw [List.length_zipIdx]; exact h.r8)
theorem m_choice0 (h : p.Gd) : F__law_choice_0 [.fro p.pl, .fro (.lst (Li free)), .fro (.lst (Li shut)), .fro (.str "near"), .fro (.int x)] = .ok (.fro (oD (choose p shut free x)), [.un, .un, .un, .un, .un]) := by
  obtain ⟨v6, v7, hl⟩ := loopC (free := free) (shut := shut) (x := x) h .near (atR p.rs x) [] .un .un (fun r hr => hr) (by have := at_len (x := x) h; simpa using this)
  have := ch_run (free := free) (shut := shut) F__law_at (bodyC F__law_rest) eBad (m_law_at p x h.r8) hl eq_nk
  rw [Bool.and_false, if_neg Bool.false_ne_true] at this
  rw [ch0_is]
  exact run5 this (by show 5 ≤ 8; decide)
theorem m_choice (h : p.Gd) (ru : Ru) : F__law_choice [.fro p.pl, .fro (.lst (Li free)), .fro (.lst (Li shut)), .fro (.str (ruS ru)), .fro (.int x)] = .ok (.fro (oD (choice p free shut ru x)), [.un, .un, .un, .un, .un]) := by
  obtain ⟨v6, v7, hl⟩ := loopC (free := free) (shut := shut) (x := x) h ru (atR p.rs x) [] .un .un (fun r hr => hr) (by have := at_len (x := x) h; simpa using this)
  rw [ch_is]
  cases ru with
  | near =>
    have := ch_run (free := free) (shut := shut) F__law_at (bodyC F__law_rest) (eCall F__law_choice_0 (aCons (eVar 0) (aCons (eVar 1) (aCons (eVar 2) (aCons (eC (.str "near")) (aCons (eVar 4) (aNil))))))) (m_law_at p x h.r8) hl eq_nk
    rw [Bool.and_false, if_neg Bool.false_ne_true] at this
    exact run5 this (by show 5 ≤ 8; decide)
  | few =>
    have := ch_run (free := free) (shut := shut) F__law_at (bodyC F__law_rest) (eCall F__law_choice_0 (aCons (eVar 0) (aCons (eVar 1) (aCons (eVar 2) (aCons (eC (.str "near")) (aCons (eVar 4) (aNil))))))) (m_law_at p x h.r8) hl eq_fk
    rw [Bool.and_false, if_neg Bool.false_ne_true] at this
    have e : (minRow ([] ++ rowsOf p free shut .few x (atR p.rs x))).map (·.2) = choice p free shut .few x := pick_few p free shut x
    rw [e] at this
    exact run5 this (by show 5 ≤ 8; decide)
  | known =>
    have := ch_run (free := free) (shut := shut) F__law_at (bodyC F__law_rest) (eCall F__law_choice_0 (aCons (eVar 0) (aCons (eVar 1) (aCons (eVar 2) (aCons (eC (.str "near")) (aCons (eVar 4) (aNil))))))) (m_law_at p x h.r8) hl eq_kk
    rw [Bool.and_true] at this
    have er : rowsOf p free shut .known x (atR p.rs x) = rowsW p (compl p.rs.length free) free x := rfl
    by_cases he : (rowsW p (compl p.rs.length free) free x).isEmpty = true
    · rw [List.nil_append, er, if_pos he] at this
      have hc : choice p free shut .known x = choose p shut free x := by unfold choice; dsimp only; rw [if_pos he]
      rw [hc]
      have c0 := m_choice0 (p := p) (free := free) (shut := shut) (x := x) h
      refine run5 (ρ := envC p.pl free shut (ruS .known) x (rowsW p (compl p.rs.length free) free x) v6 v7) (this.trans ?_) (by show 5 ≤ 8; decide)
      generalize F__law_choice_0 = CH at c0
      simp only [Li] at *
      simp [envC, c0]
    · rw [List.nil_append, er, if_neg he] at this
      have hc : choice p free shut .known x = choose p (compl p.rs.length free) free x := by unfold choice; dsimp only; rw [if_neg he]
      rw [hc]
      exact run5 this (by show 5 ≤ 8; decide)
end
end Dt
end

section
set_option Elab.async false
set_option linter.all false
set_option maxRecDepth 100000
set_option maxHeartbeats 4000000
set_option autoImplicit false
namespace Dt
open PySem PySem.Spec PyProof.Rows L2
@[simp] theorem isL_own (ρ : Env) (i : Nat) (ds : List D) (h : ρ[i]? = some (.own (.lst ds))) : isL i ρ = true := by unfold isL; rw [h]
section
variable {p : Pl} {W : List Int} {x : Int} {s : List Int × List Int} {fo : List Int}
def envW (pl : D) (W : List Int) (ru : Str) (x : Int) (s : List Int × List Int) (fo : List Int) (u7 : Cell) : Env := [.fro pl, .fro (.tup (Li W)), .fro (.str ru), .fro (.int x), .own (.lst (Li s.1)), .own (.lst (Li s.2)), .own (.lst (Li fo)), u7]
def bodySee : SF := sIf (bAnd (bB (e2 (oIn false) (eUse 7) (eUse 1))) (bB (e2 (oIn true) (eUse 7) (eUse 5)))) (sApp 5 (eVar 7)) (sIf (bAnd (bB (e2 (oIn true) (eUse 7) (eUse 1))) (bB (e2 (oIn true) (eUse 7) (eUse 4)))) (sApp 4 (eVar 7)) (sNil))
theorem z_sApp {i : Nat} {fe : EF} {ρ : Env} : sApp i fe ρ = (Res.need (isL i ρ)).bind fun _ => (fe ρ).bind fun p => (Res.of p.1.take).bind fun x => (putL i (fun ds => if ds.length < sizeLine then .ok (ds ++ [x]) else .bad) p.2).bind fun ρ1 => .ok (.nx, ρ1) := rfl
theorem Sees.few {n : Nat} (h : Sees n W s) (h8 : n ≤ 8) : s.1.length ≤ 8 ∧ s.2.length ≤ 8 := by
  have rg : ((List.range n).map fun i : Nat => (i : Int)).length = n := by rw [List.length_map, List.length_range]
  have mem : ∀ r : Int, 0 ≤ r ∧ r < n → r ∈ (List.range n).map fun i : Nat => (i : Int) := fun r hr => List.mem_map.mpr ⟨r.toNat, List.mem_range.mpr (by omega), by omega⟩
  have a := sub_len h.nf fun r hr => mem r (h.f r hr).2
  have b := sub_len h.nc fun r hr => mem r (h.c r hr).2
  omega
theorem bodySee_ok {pl : D} {ru : Str} {r : Int} (h1 : s.1.length ≤ 8) (h2 : s.2.length ≤ 8) : bodySee (envW pl W ru x s fo (.fro (.int r))) = .ok (.nx, envW pl W ru x (seeR W s r) fo (.fro (.int r))) := by
  have o1 := oIn_tup false r W
  have o2 := oIn_lst true r s.2
  have o3 := oIn_tup true r W
  have o4 := oIn_lst true r s.1
  have z1 : s.1.length < sizeLine := Nat.lt_of_le_of_lt h1 (by decide)
  have z2 : s.2.length < sizeLine := Nat.lt_of_le_of_lt h2 (by decide)
  unfold seeR
  cases hW : W.contains r with
  | true =>
    rw [hW] at o1 o3
    cases hs : s.2.contains r with
    | true =>
      rw [hs] at o2
      simp only [Li] at *
      simp [bodySee, envW, o1, o2, o3]
    | false =>
      rw [hs] at o2
      simp only [Li] at *
      simp [bodySee, envW, o1, o2, z_sApp, putL, Cell.mut, Cell.dat, Cell.put, z2]
  | false =>
    rw [hW] at o1 o3
    cases hs : s.1.contains r with
    | true =>
      rw [hs] at o4
      simp only [Li] at *
      simp [bodySee, envW, o1, o3, o4]
    | false =>
      rw [hs] at o4
      simp only [Li] at *
      simp [bodySee, envW, o1, o3, o4, z_sApp, putL, Cell.mut, Cell.dat, Cell.put, z1]
theorem loopSee {pl : D} {ru : Str} {n : Nat} (h8 : n ≤ 8) : ∀ (l : List Int) (s : List Int × List Int) (u7 : Cell), Sees n W s → (∀ r ∈ l, 0 ≤ r ∧ r < n) → ∃ v7, forL (gN 7) bodySee (Li l) (envW pl W ru x s fo u7) = .ok (.nx, envW pl W ru x (l.foldl (seeR W) s) fo v7)
  | [], s, u7, _, _ => ⟨u7, rfl⟩
  | r :: l, s, u7, S, hl => by
    obtain ⟨f1, f2⟩ := S.few h8
    obtain ⟨v7, ih⟩ := loopSee (pl := pl) (ru := ru) h8 l (seeR W s r) (.fro (.int r)) (S.step (hl r (List.mem_cons_self ..))).1 fun a ha => hl a (List.mem_cons_of_mem _ ha)
    refine ⟨v7, ?_⟩
    show forL (gN 7) _ (.int r :: Li l) _ = _
    rw [forL, show gN 7 (.int r) (envW pl W ru x s fo u7) = .ok (envW pl W ru x s fo (.fro (.int r))) from rfl, Res.bind_ok, bodySee_ok f1 f2, Res.bind_ok]
    exact ih
@[simp] theorem z_eCallV (k : Fm) (a : AF) (ρ : Env) : eCallV k a ρ = (a ρ).bind fun p => (Res.of (derefs p.2 p.1)).bind fun ds => (k (ds.map .fro)).bind fun q => (Res.need q.1.lv).bind fun _ => .ok (q.1, p.2) := rfl
@[simp] theorem lv_non : (RV.fro .non).lv = true := by decide +kernel
@[simp] theorem lv_int (i : Int) : (RV.fro (.int i)).lv = true := by simp [RV.lv, D.lv]
theorem lv_oD (o : Option Int) : (RV.fro (oD o)).lv = true := by cases o <;> simp [oD]
def turnW (AT CH OV : Fm) : SF := sCons (sFor (gN 7) (iData (eCall AT (aCons (eVar 0) (aCons (eVar 3) (aNil))))) bodySee) (sCons (sSet 7 (eCallV CH (aCons (eVar 0) (aCons (eUse 4) (aCons (eUse 5) (aCons (eVar 2) (aCons (eVar 3) (aNil)))))))) (sCons (sIf (bOr (bB (e2 oIsN (eUse 7) (eC .non))) (bB (e2 oEq (eUse 3) (e2 oIx (e2 oIx (eUse 0) (eC (.int 2))) (eC (.int 1)))))) (sRet (eTup (aCons (eVar 6) (aCons (eVar 3) (aNil))))) (sNil)) (sCons (sApp 6 (eVar 7)) (sSet 3 (eCall OV (aCons (eVar 0) (aCons (eVar 7) (aCons (eVar 3) (aNil)))))))))
theorem turn_ok {pl : D} {ru : Str} {l : List Int} {s' : List Int × List Int} {u7 v7 : Cell} {o : Option Int} {b g : Int} (AT CH OV : Fm) (hAT : AT [.fro pl, .fro (.int x)] = .ok (.own (.lst (Li l)), [.un, .un]))
    (hl : forL (gN 7) bodySee (Li l) (envW pl W ru x s fo u7) = .ok (.nx, envW pl W ru x s' fo v7))
    (hCH : CH [.fro pl, .fro (.lst (Li s'.1)), .fro (.lst (Li s'.2)), .fro (.str ru), .fro (.int x)] = .ok (.fro (oD o), [.un, .un, .un, .un, .un]))
    (e2' : oIx pl (.int 2) = .ok (.fro (.tup [.int b, .int g]))) (hf : fo.length < sizeLine) (y : Int) (hOV : ∀ r, o = some r → OV [.fro pl, .fro (.int r), .fro (.int x)] = .ok (.fro (.int y), [.un, .un, .un])) :
    (match o with
      | none => ∃ ρ, turnW AT CH OV (envW pl W ru x s fo u7) = .ok (.ret (.fro (.tup [.lst (Li fo), .int x])), ρ) ∧ ρ.length = 8 ∧ (ρ.take 3).map outC = [.un, .un, .un]
      | some r => if x = g then ∃ ρ, turnW AT CH OV (envW pl W ru x s fo u7) = .ok (.ret (.fro (.tup [.lst (Li fo), .int x])), ρ) ∧ ρ.length = 8 ∧ (ρ.take 3).map outC = [.un, .un, .un] else turnW AT CH OV (envW pl W ru x s fo u7) = .ok (.nx, envW pl W ru y s' (fo ++ [r]) (.fro (.int r)))) := by
  have s2 : 2 ≤ sizeLine := by decide
  have e1 : (iData (eCall AT (aCons (eVar 0) (aCons (eVar 3) (aNil))))) (envW pl W ru x s fo u7) = .ok (Li l, envW pl W ru x s fo u7) := by simp [envW, hAT]
  have eg : oIx (.tup [.int b, .int g]) (.int 1) = .ok (.fro (.int g)) := rfl
  have run1 : turnW AT CH OV (envW pl W ru x s fo u7) = (sCons (sIf (bOr (bB (e2 oIsN (eUse 7) (eC .non))) (bB (e2 oEq (eUse 3) (e2 oIx (e2 oIx (eUse 0) (eC (.int 2))) (eC (.int 1)))))) (sRet (eTup (aCons (eVar 6) (aCons (eVar 3) (aNil))))) (sNil)) (sCons (sApp 6 (eVar 7)) (sSet 3 (eCall OV (aCons (eVar 0) (aCons (eVar 7) (aCons (eVar 3) (aNil)))))))) (envW pl W ru x s' fo (.fro (oD o))) := by
    have e2 : sSet 7 (eCallV CH (aCons (eVar 0) (aCons (eUse 4) (aCons (eUse 5) (aCons (eVar 2) (aCons (eVar 3) (aNil))))))) (envW pl W ru x s' fo v7) = .ok (.nx, envW pl W ru x s' fo (.fro (oD o))) := by
      have lv := lv_oD o
      simp only [Li] at *
      simp [envW, hCH, lv]
    rw [turnW, z_sCons, z_sFor, e1, Res.bind_ok, hl, Res.bind_ok]
    show sCons _ _ _ = _
    rw [z_sCons, e2, Res.bind_ok]
  cases o with
  | none =>
    refine ⟨(envW pl W ru x s' fo (.fro .non)).set 6 (.fro (.lst (Li fo))), run1.trans ?_, rfl, rfl⟩
    simp only [Li, oD] at *
    simp [envW, D.isN, s2]
  | some r =>
    have hov := hOV r rfl
    by_cases hx : x = g
    · simp only [if_pos hx]
      refine ⟨(envW pl W ru x s' fo (.fro (.int r))).set 6 (.fro (.lst (Li fo))), run1.trans ?_, rfl, rfl⟩
      simp only [Li, oD] at *
      simp [envW, D.isN, s2, e2', eg, hx]
    · simp only [if_neg hx]
      refine run1.trans ?_
      simp only [Li, oD] at *
      simp [envW, D.isN, e2', eg, hx, z_sApp, putL, Cell.mut, Cell.dat, Cell.put, hf, hov]
theorem choose_at {q : Pl} {w free : List Int} {r : Int} (e : choose q w free x = some r) : r ∈ atR q.rs x := by
  obtain ⟨a, ha, rfl⟩ := Option.map_eq_some_iff.mp e
  exact (row_mem.mp (minRow_mem ha)).1
theorem choice_at {free shut : List Int} {ru : Ru} {r : Int} (e : choice p free shut ru x = some r) : r ∈ atR p.rs x := by
  cases ru with
  | near => exact choose_at e
  | few =>
    have := choose_at (q := p.ones) e
    exact (atR_ones p.rs x) ▸ this
  | known =>
    unfold choice at e
    dsimp only at e
    split at e <;> exact choose_at e
theorem whileW (h : p.Gd) (ru : Ru) : ∀ (n : Nat) (x : Int) (s : List Int × List Int) (fo : List Int) (u7 : Cell) (z : List Int × Int), walkN p W ru n x s fo = some z → Sees p.rs.length W s → fo.length + n ≤ 4000 →
    ∃ ρ, sWhile (bB (eC (.bl true))) (turnW F__law_at F__law_choice F__law_over) n (envW p.pl W (ruS ru) x s fo u7) = .ok (.ret (.fro (.tup [.lst (Li z.1), .int z.2])), ρ) ∧ ρ.length = 8 ∧ (ρ.take 3).map outC = [.un, .un, .un]
  | 0, _, _, _, _, _, hz, _, _ => by cases hz
  | n + 1, x, s, fo, u7, z, hz, S, hn => by
    obtain ⟨v7, hl⟩ := loopSee (pl := p.pl) (ru := ruS ru) (x := x) (fo := fo) h.r8 (atR p.rs x) s u7 S (at_in p.rs x)
    have hf : fo.length < sizeLine := Nat.lt_of_le_of_lt (show fo.length ≤ 4000 by omega) (by decide)
    have hCH := m_choice (x := x) (free := (see p.rs W x s).1) (shut := (see p.rs W x s).2) h ru
    have hca : ∀ r, choice p (see p.rs W x s).1 (see p.rs W x s).2 ru x = some r → r ∈ atR p.rs x := fun r hr => choice_at hr
    have step : ∀ ρ0, sWhile (bB (eC (.bl true))) (turnW F__law_at F__law_choice F__law_over) (n + 1) ρ0 = (turnW F__law_at F__law_choice F__law_over ρ0).bind fun q => match q.1 with
      | .nx => sWhile (bB (eC (.bl true))) (turnW F__law_at F__law_choice F__law_over) n q.2
      | .ct => sWhile (bB (eC (.bl true))) (turnW F__law_at F__law_choice F__law_over) n q.2
      | .bk => .ok (.nx, q.2)
      | .ret r => .ok (.ret r, q.2) := fun ρ0 => rfl
    rw [walkN] at hz
    rw [step]
    have hat := m_law_at p x h.r8
    generalize choice p (see p.rs W x s).1 (see p.rs W x s).2 ru x = o at hz hCH hca
    cases o with
    | none =>
      have T := turn_ok (o := none) (b := p.b) (g := p.g) F__law_at F__law_choice F__law_over hat hl hCH rfl hf 0 (fun r hr => nomatch hr)
      cases hz
      obtain ⟨ρ, e, l8, t3⟩ := T
      exact ⟨ρ, by rw [e]; rfl, l8, t3⟩
    | some r =>
      have T := turn_ok (o := some r) (b := p.b) (g := p.g) F__law_at F__law_choice F__law_over hat hl hCH rfl hf (ovr p.rs r x) (fun r' hr => by
        cases hr
        exact m_over (hca r rfl))
      dsimp only at hz T
      by_cases hx : x = p.g
      · rw [if_pos hx] at hz T
        cases hz
        obtain ⟨ρ, e, l8, t3⟩ := T
        exact ⟨ρ, by rw [e]; rfl, l8, t3⟩
      · rw [if_neg hx] at hz T
        rw [T]
        exact whileW h ru n _ _ _ _ z hz (sees_at (x := x) S).1 (by rw [List.length_append, List.length_singleton]; omega)
theorem walk_is : F__law_walk = runF 3 5 (sCons (sParL [3, 4, 5, 6] (aoCons (e2 oIx (e2 oIx (eUse 0) (eC (.int 2))) (eC (.int 0))) (aoCons (eLst (aNil)) (aoCons (eLst (aNil)) (aoCons (eLst (aNil)) (aoNil)))))) (sWhile (bB (eC (.bl true))) (turnW F__law_at F__law_choice F__law_over) 4000)) := rfl
theorem m_walk (h : p.Gd) (hW : W.length ≤ 3) (ru : Ru) : F__law_walk [.fro p.pl, .fro (.tup (Li W)), .fro (.str (ruS ru))] = .ok (.fro (.tup [.lst (Li (walkOf p W ru).1), .int (walkOf p W ru).2]), [.un, .un, .un]) := by
  obtain ⟨ρ, e, l8, r3⟩ := whileW (W := W) h ru 4000 p.b ([], []) [] .un _ (walkOf_eq h hW ru) (.nil _ _) (by simp)
  have e2' : oIx p.pl (.int 2) = .ok (.fro (.tup [.int p.b, .int p.g])) := rfl
  have eb : oIx (.tup [.int p.b, .int p.g]) (.int 0) = .ok (.fro (.int p.b)) := rfl
  have s0 : 0 ≤ sizeLine := Nat.zero_le _
  have e0 : sParL [3, 4, 5, 6] (aoCons (e2 oIx (e2 oIx (eUse 0) (eC (.int 2))) (eC (.int 0))) (aoCons (eLst (aNil)) (aoCons (eLst (aNil)) (aoCons (eLst (aNil)) (aoNil))))) [.fro p.pl, .fro (.tup (Li W)), .fro (.str (ruS ru)), .un, .un, .un, .un, .un] = .ok (.nx, envW p.pl W (ruS ru) p.b ([], []) [] .un) := by
    simp [sParL, aoCons, aoNil, e2', eb, s0, storeCs, setAll, envW]
  rw [walk_is]
  generalize sWhile (bB (eC (.bl true))) (turnW F__law_at F__law_choice F__law_over) 4000 = WH at e
  rw [z_runF]
  show ((sCons _ WH) ([.fro p.pl, .fro (.tup (Li W)), .fro (.str (ruS ru)), .un, .un, .un, .un, .un] : Env)).bind _ = _
  rw [z_sCons, e0, Res.bind_ok]
  show (WH (envW p.pl W (ruS ru) p.b ([], []) [] .un)).bind _ = _
  rw [e, Res.bind_ok, if_pos (by rw [l8]; decide)]
  rw [r3]
end
end Dt
end

section
set_option Elab.async false
set_option linter.all false
set_option maxRecDepth 100000
set_option maxHeartbeats 4000000
set_option autoImplicit false
namespace Dt
open PySem PySem.Spec PyProof.Rows L2
/-! ### the small sets: both lists, by trying every list of places below 8 -/
def subsF : Nat → Int → List (List Int)
  | 0, _ => [[]]
  | f + 1, k => subsF f (k + 1) ++ (subsF f (k + 1)).map (k :: ·)
theorem subsF_nil : ∀ (f : Nat) (k : Int), [] ∈ subsF f k
  | 0, _ => List.mem_singleton.mpr rfl
  | f + 1, k => List.mem_append_left _ (subsF_nil f (k + 1))
theorem subsF_mem : ∀ (f : Nat) (k : Int) (l : List Int), l.Pairwise (· < ·) → (∀ x ∈ l, k ≤ x ∧ x < k + f) → l ∈ subsF f k
  | f, k, [], _, _ => subsF_nil f k
  | 0, k, x :: l, _, h => by
    have := h x (List.mem_cons_self ..)
    omega
  | f + 1, k, x :: l, hp, h => by
    obtain ⟨h1, h2⟩ := List.pairwise_cons.mp hp
    have hx := h x (List.mem_cons_self ..)
    have hl : ∀ y ∈ l, k + 1 ≤ y ∧ y < k + 1 + f := fun y hy => by
      have := h1 y hy
      have := h y (List.mem_cons_of_mem _ hy)
      omega
    by_cases e : x = k
    · subst e
      exact List.mem_append_right _ (List.mem_map.mpr ⟨l, subsF_mem f (x + 1) l h2 hl, rfl⟩)
    · refine List.mem_append_left _ (subsF_mem f (k + 1) (x :: l) hp fun y hy => ?_)
      rcases List.mem_cons.mp hy with rfl | hy
      · omega
      · exact hl y hy
def ascB : List Int → Bool
  | [] => true
  | x :: l => l.all (fun y => decide (x < y)) && ascB l
theorem ascB_of : ∀ {l : List Int}, ascB l = true → l.Pairwise (· < ·)
  | [], _ => .nil
  | x :: l, h => by
    rw [ascB, Bool.and_eq_true, List.all_eq_true] at h
    exact List.pairwise_cons.mpr ⟨fun y hy => of_decide_eq_true (h.1 y hy), ascB_of h.2⟩
theorem tups_eq : ∀ {ds : List D} {ks : List (List Int)}, D.tups ds = some ks → ds = ks.map kD
  | [], _, e => by cases e; rfl
  | d :: ds, ks, e => by
    cases d <;> first | (cases e; done) | skip
    rename_i xs
    rw [D.tups] at e
    split at e
    · rename_i k ks' e1 e2
      cases e
      have hx : xs = k.map .int := by
        clear e2
        induction xs generalizing k with
        | nil => cases e1; rfl
        | cons x xs ih =>
          cases x <;> first | (cases e1; done) | skip
          obtain ⟨k', e3, rfl⟩ := Option.map_eq_some_iff.mp e1
          rw [ih _ e3]; rfl
      rw [tups_eq e2, hx]; rfl
    · cases e
end Dt
end

section
set_option Elab.async false
set_option linter.all false
set_option maxRecDepth 1000000
set_option maxHeartbeats 4000000
set_option autoImplicit false
namespace Dt
open PySem PySem.Spec PyProof.Rows L2
/-! ### the worlds: the law's list of them, by trying every number of roads -/
def everyN (n : Nat) (m : Int) : List (List Int) := match F__law_some [.fro (.lst (Li ((List.range n).map fun i : Nat => (i : Int)))), .fro (.int m)] with
  | .ok (.own (.lst b), _) => (D.tups b).getD []
  | _ => []
def everyB (n : Nat) (m : Int) : Bool := match F__law_some [.fro (.lst (Li ((List.range n).map fun i : Nat => (i : Int)))), .fro (.int m)] with
  | .ok (.own (.lst b), [.un, .un]) => (match D.tups b with
    | some y => decide (1 ≤ y.length ∧ y.length ≤ 100) && y.all fun s => decide ((s.length : Int) ≤ m) && (ascB s && s.all fun r => decide (0 ≤ r ∧ r < n))
    | none => false)
  | _ => false
theorem everyB_ok {n : Nat} {m : Int} (h : everyB n m = true) : F__law_some [.fro (.lst (Li ((List.range n).map fun i : Nat => (i : Int)))), .fro (.int m)] = .ok (.own (.lst ((everyN n m).map kD)), [.un, .un]) ∧
    (1 ≤ (everyN n m).length ∧ (everyN n m).length ≤ 100) ∧ ∀ s ∈ everyN n m, (s.length : Int) ≤ m ∧ s.Pairwise (· < ·) ∧ ∀ r ∈ s, 0 ≤ r ∧ r < n := by
  unfold everyB at h
  split at h
  · rename_i b e2
    split at h
    · rename_i y e4
      rw [Bool.and_eq_true, List.all_eq_true] at h
      have es : everyN n m = y := by unfold everyN; rw [e2]; show (D.tups b).getD [] = y; rw [e4]; rfl
      rw [es]
      refine ⟨by rw [e2, tups_eq e4], of_decide_eq_true h.1, fun s hs => ?_⟩
      have := h.2 s hs
      rw [Bool.and_eq_true, Bool.and_eq_true, List.all_eq_true] at this
      exact ⟨of_decide_eq_true this.1, ascB_of this.2.1, fun r hr => of_decide_eq_true (this.2.2 r hr)⟩
    · cases h
  · cases h
theorem every1_0 : everyB 1 0 = true := by decide +kernel
theorem every1_1 : everyB 1 1 = true := by decide +kernel
theorem every1_2 : everyB 1 2 = true := by decide +kernel
theorem every1_3 : everyB 1 3 = true := by decide +kernel
theorem every2_0 : everyB 2 0 = true := by decide +kernel
theorem every2_1 : everyB 2 1 = true := by decide +kernel
theorem every2_2 : everyB 2 2 = true := by decide +kernel
theorem every2_3 : everyB 2 3 = true := by decide +kernel
theorem every3_0 : everyB 3 0 = true := by decide +kernel
theorem every3_1 : everyB 3 1 = true := by decide +kernel
theorem every3_2 : everyB 3 2 = true := by decide +kernel
theorem every3_3 : everyB 3 3 = true := by decide +kernel
theorem every4_0 : everyB 4 0 = true := by decide +kernel
theorem every4_1 : everyB 4 1 = true := by decide +kernel
theorem every4_2 : everyB 4 2 = true := by decide +kernel
theorem every4_3 : everyB 4 3 = true := by decide +kernel
theorem every5_0 : everyB 5 0 = true := by decide +kernel
theorem every5_1 : everyB 5 1 = true := by decide +kernel
theorem every5_2 : everyB 5 2 = true := by decide +kernel
theorem every5_3 : everyB 5 3 = true := by decide +kernel
theorem every6_0 : everyB 6 0 = true := by decide +kernel
theorem every6_1 : everyB 6 1 = true := by decide +kernel
theorem every6_2 : everyB 6 2 = true := by decide +kernel
theorem every6_3 : everyB 6 3 = true := by decide +kernel
theorem every7_0 : everyB 7 0 = true := by decide +kernel
theorem every7_1 : everyB 7 1 = true := by decide +kernel
theorem every7_2 : everyB 7 2 = true := by decide +kernel
theorem every7_3 : everyB 7 3 = true := by decide +kernel
theorem every8_0 : everyB 8 0 = true := by decide +kernel
theorem every8_1 : everyB 8 1 = true := by decide +kernel
theorem every8_2 : everyB 8 2 = true := by decide +kernel
theorem every8_3 : everyB 8 3 = true := by decide +kernel
theorem every_ok {n : Nat} {m : Int} (h1 : 1 ≤ n) (h8 : n ≤ 8) (m0 : 0 ≤ m) (m3 : m ≤ 3) : everyB n m = true := by
  have hm : m = 0 ∨ m = 1 ∨ m = 2 ∨ m = 3 := by omega
  have hn : n = 1 ∨ n = 2 ∨ n = 3 ∨ n = 4 ∨ n = 5 ∨ n = 6 ∨ n = 7 ∨ n = 8 := by omega
  rcases hn with rfl | rfl | rfl | rfl | rfl | rfl | rfl | rfl <;> rcases hm with rfl | rfl | rfl | rfl
  · exact every1_0
  · exact every1_1
  · exact every1_2
  · exact every1_3
  · exact every2_0
  · exact every2_1
  · exact every2_2
  · exact every2_3
  · exact every3_0
  · exact every3_1
  · exact every3_2
  · exact every3_3
  · exact every4_0
  · exact every4_1
  · exact every4_2
  · exact every4_3
  · exact every5_0
  · exact every5_1
  · exact every5_2
  · exact every5_3
  · exact every6_0
  · exact every6_1
  · exact every6_2
  · exact every6_3
  · exact every7_0
  · exact every7_1
  · exact every7_2
  · exact every7_3
  · exact every8_0
  · exact every8_1
  · exact every8_2
  · exact every8_3
end Dt
end

section
set_option Elab.async false
set_option linter.all false
set_option maxRecDepth 100000
set_option maxHeartbeats 4000000
set_option autoImplicit false
namespace Dt
open PySem PySem.Spec PyProof.Rows L2
/-! ### what k01's mathematics has too (left out where MK and MN are taken) -/
theorem lay_ints : ∀ l : List Int, PyData.canLayAll0 (l.map .int) = true
  | [] => rfl
  | i :: l => by rw [List.map_cons, PyData.canLayAll0, lay_ints l]; rfl
theorem dep_ints : ∀ l : List Int, PyData.depthAll (l.map .int) = 0
  | [] => rfl
  | i :: l => by rw [List.map_cons, PyData.depthAll, dep_ints l]; rfl
theorem ixN_at {n : Nat} {k : Int} (h0 : 0 ≤ k) (h1 : k < n) : L2.ixN n k = some k.toNat := by
  unfold L2.ixN
  simp [h0, h1]
theorem insU_map {α β : Type} (f : β → Int) (h : α → β) (x : α) : ∀ l : List α, insU f (h x) (l.map h) = (insU (fun a => f (h a)) x l).map h
  | [] => rfl
  | y :: l => by
    rw [List.map_cons, insU, insU]
    split
    · rfl
    · split
      · rfl
      · rw [insU_map f h x l]; rfl
theorem ascU_map {α β : Type} (f : β → Int) (h : α → β) : ∀ l : List α, ascU f (l.map h) = (ascU (fun a => f (h a)) l).map h
  | [] => rfl
  | x :: l => by rw [List.map_cons, ascU, ascU_map f h l, insU_map]; rfl
theorem insU_len {α : Type} (f : α → Int) (x : α) : ∀ l : List α, (insU f x l).length ≤ l.length + 1
  | [] => Nat.le_refl _
  | y :: l => by
    rw [insU]
    split
    · exact Nat.le_refl _
    · split
      · simp
      · have := insU_len f x l
        simp; omega
theorem ascU_len {α : Type} (f : α → Int) : ∀ l : List α, (ascU f l).length ≤ l.length
  | [] => Nat.le_refl _
  | x :: l => by
    have h1 := insU_len f x (ascU f l)
    have h2 := ascU_len f l
    rw [ascU, List.length_cons]; omega
def sortR (l : List Rd) : List Rd := ascU (fun r => TS.code 64 (k3 r)) l
@[simp] theorem z_min (x y : Int) : oMin2 (.int x) (.int y) = .ok (.fro (.int (if y < x then y else x))) := rfl
@[simp] theorem z_max (x y : Int) : oMax2 (.int x) (.int y) = .ok (.fro (.int (if y > x then y else x))) := rfl
theorem two_places {P c e : Int} (h2 : 2 ≤ P) (h6 : P ≤ 6) : 0 ≤ c % P ∧ c % P < P ∧ 0 ≤ (c % P + 1 + e % (P - 1)) % P ∧ (c % P + 1 + e % (P - 1)) % P < P ∧ c % P ≠ (c % P + 1 + e % (P - 1)) % P := by
  have hP : P = 2 ∨ P = 3 ∨ P = 4 ∨ P = 5 ∨ P = 6 := by omega
  rcases hP with rfl | rfl | rfl | rfl | rfl <;> omega
theorem runF_fro {n m : Nat} {f : SF} {cs : List Cell} {d : D} {ρ' : Env} {ρ0 : Env} (h : f ρ0 = .ok (.ret (.fro d), ρ')) (hl : cs.length = n) (hr : cs ++ List.replicate m .un = ρ0) (hp : n ≤ ρ'.length) : runF n m f cs = .ok (.fro d, (ρ'.take n).map outC) := by
  unfold runF
  rw [if_pos hl, hr, h, Res.bind_ok, if_pos hp]
end Dt
end

section
set_option Elab.async false
set_option linter.all false
set_option maxRecDepth 100000
set_option maxHeartbeats 4000000
set_option autoImplicit false
namespace Dt
open PySem PySem.Spec PyProof.Rows L2
/-! ### the script's numbers -/
theorem scr_eqv_nil (ns : List Int) : D.eqv (.scr ns) (.lst []) = some ns.isEmpty := by
  have hs : SeqAt.shaped (.list (ns.map .int)) = true := by
    unfold SeqAt.shaped
    rw [PyData.canLay0, lay_ints, PyData.depth, dep_ints]; rfl
  have hs2 : SeqAt.shaped (.list []) = true := rfl
  unfold D.eqv
  show (match some (PyData.list (ns.map .int)), some (PyData.list []) with
    | some p, some q => if SeqAt.shaped p && SeqAt.shaped q then some (PyData.eqv p q) else none
    | _, _ => none) = _
  simp only [hs, hs2, Bool.and_self, if_true]
  cases ns <;> simp [PyData.eqv, PyData.eqvAll]
theorem scr_ne_nil (ns : List Int) : oNe (.scr ns) (.lst []) = .ok (.fro (.bl !ns.isEmpty)) := by
  unfold oNe
  rw [scr_eqv_nil]; rfl
def cellsOf (ns : List Int) : List Int := if ns = [] then [5] else ns.take 63
theorem cells_pos (ns : List Int) : 0 < (cellsOf ns).length := by
  unfold cellsOf
  split
  · exact Nat.one_pos
  · rename_i h
    rw [List.length_take]
    have := List.length_pos_iff.mpr h
    omega
theorem cells_le (ns : List Int) : (cellsOf ns).length ≤ 63 := by
  unfold cellsOf
  split
  · decide
  · rw [List.length_take]; omega
theorem lst_ix {ns : List Int} {k : Int} (h0 : 0 ≤ k) (h1 : k < ns.length) : ∃ v, oIx (.lst (Li ns)) (.int k) = .ok (.fro (.int v)) := by
  have h2 : k.toNat < ns.length := by omega
  refine ⟨ns[k.toNat], ?_⟩
  show (Res.of (L2.atI (ns.map D.int) k)).bind _ = _
  have e : L2.atI (ns.map D.int) k = some (.int ns[k.toNat]) := by
    unfold L2.atI
    rw [List.length_map, ixN_at h0 h1]
    simp [h2]
  rw [e]; rfl
theorem cut63 (ns : List Int) : cutD (ns.map .int) none (some 63) = Li (ns.take 63) := by
  unfold cutD Li
  have e1 : HT.sIx (ns.map D.int).length 0 none = 0 := rfl
  have e2 : HT.sIx (ns.map D.int).length (ns.map D.int).length (some 63) = min 63 ns.length := by rw [List.length_map]; exact HT.sIx_nat _ _ 63
  rw [e1, e2, List.drop_zero, Nat.sub_zero, List.map_take]
  by_cases h : 63 ≤ ns.length
  · rw [Nat.min_eq_left h]
  · rw [Nat.min_eq_right (by omega), List.take_of_length_le (by rw [List.length_map]; exact Nat.le_refl _), List.take_of_length_le (by rw [List.length_map]; omega)]
@[simp] theorem sum_L (l : List Int) : oSum (.lst (Li l)) = .ok (.fro (.int l.sum)) := by
  unfold oSum D.nums
  simp only [Li]
  rw [show D.ints (l.map .int) = some l from ints_L l]
  rfl
def numB1 : SF := sSet 2 (eIf (bB (e2 oNe (eUse 0) (eLst (aNil)))) (eSl none (some 63) (eUse 0)) (eLst (aCons (eC (.int 5)) (aNil))))
theorem numB1_ok (ns : List Int) (k : Int) : numB1 [.fro (.scr ns), .fro (.int k), .un, .un, .un, .un, .un] = .ok (.nx, [.fro (.scr ns), .fro (.int k), .own (.lst (Li (cellsOf ns))), .un, .un, .un, .un]) := by
  have z0 : 0 ≤ sizeLine := Nat.zero_le _
  have z1 : 1 ≤ sizeLine := by decide
  have e := scr_ne_nil ns
  have c := cut63 ns
  unfold cellsOf
  cases ns with
  | nil => simp [numB1, e, z0, z1, Li]
  | cons a l => 
    simp only [List.isEmpty_cons, Bool.not_false] at e
    rw [if_neg (List.cons_ne_nil _ _)]
    rw [List.map_cons] at c
    generalize Li (List.take 63 (a :: l)) = q at c
    simp [numB1, e, z0, z1, eSl, c]
theorem m_number0 (ns : List Int) {k : Int} (h : 0 ≤ k) : ∃ v, F__law_number [.fro (.scr ns), .fro (.int k)] = .ok (.fro (.int v), [.un, .un]) := by
  have b1 := numB1_ok ns k
  have hp := cells_pos ns
  have hq := cells_le ns
  generalize cellsOf ns = cs at b1 hp hq
  have hl : (0 : Int) < (cs.length : Int) := by omega
  have hm0 := Int.emod_nonneg k (Int.ne_of_gt hl)
  have hm1 := Int.emod_lt_of_pos k hl
  obtain ⟨v, hv⟩ := lst_ix hm0 hm1
  have hsum := sum_L cs
  have u1 : ∀ x : Int, -18446744073709551616 < x % 2147483647 := fun x => by omega
  have u2 : ∀ x : Int, x % 2147483647 < 18446744073709551616 := fun x => by omega
  have u3 : ∀ x : Int, -18446744073709551616 < x % 2147483629 := fun x => by omega
  have u4 : ∀ x : Int, x % 2147483629 < 18446744073709551616 := fun x => by omega
  have hbig : (cs.length : Int) < 1073741824 := by omega
  apply Exists.intro
  rw [show F__law_number = runF 2 5 (sCons numB1 _) from rfl]
  rw [z_runF]
  show ((sCons numB1 _) ([.fro (.scr ns), .fro (.int k), .un, .un, .un, .un, .un] : Env)).bind _ = _
  rw [z_sCons, b1, Res.bind_ok]
  dsimp only
  simp only [Li] at *
  simp [hv, hl, hp, hsum, hbig, u1, u2, u3, u4]
  exact rfl
def numV (ns : List Int) (k : Int) : Int := match F__law_number [.fro (.scr ns), .fro (.int k)] with
  | .ok (.fro (.int v), _) => v
  | _ => 0
theorem m_number (ns : List Int) {k : Int} (h : 0 ≤ k) : F__law_number [.fro (.scr ns), .fro (.int k)] = .ok (.fro (.int (numV ns k)), [.un, .un]) := by
  obtain ⟨v, hv⟩ := m_number0 ns h
  unfold numV
  rw [hv]
end Dt
end

section
set_option Elab.async false
set_option linter.all false
set_option maxRecDepth 100000
set_option maxHeartbeats 4000000
set_option autoImplicit false
namespace Dt
open PySem PySem.Spec PyProof.Rows L2
/-! ### a dict of drawn roads -/
def addR (l : List Rd) (r : Rd) : List Rd := if r ∈ l then l else l ++ [r]
def dS (l : List Rd) : D := .dic true (l.map rd) (l.map fun _ => .bl true)
theorem keq_rd (a b : Rd) : keq true (rd a) (rd b) = decide (a = b) := by
  obtain ⟨a1, a2, a3⟩ := a
  obtain ⟨b1, b2, b3⟩ := b
  show NestedKey.beq (.tup [.num a1, .num a2, .num a3]) (.tup [.num b1, .num b2, .num b3]) = _
  simp [NestedKey.beq, NestedKey.beqAll]
theorem dHas_S (l : List Rd) (r : Rd) : dHas true (l.map rd) (rd r) = decide (r ∈ l) := by
  unfold dHas
  rw [List.any_map]
  induction l with
  | nil => rfl
  | cons a l ih =>
    rw [List.any_cons, ih]
    show (keq true (rd a) (rd r) || _) = _
    rw [keq_rd]
    by_cases h : a = r
    · subst h; simp
    · rw [decide_eq_false h]
      by_cases h2 : r ∈ l
      · simp [h2]
      · have h' : ¬ r = a := fun e => h e.symm
        simp [h2, h']
theorem dPut_S (l : List Rd) (r : Rd) : dPut true (l.map rd) (l.map fun _ => D.bl true) (rd r) (.bl true) = ((addR l r).map rd, (addR l r).map fun _ => D.bl true) := by
  unfold dPut addR
  rw [dHas_S]
  by_cases h : r ∈ l
  · rw [decide_eq_true h, if_pos h, if_pos rfl]
    congr 1
    clear h
    induction l with
    | nil => rfl
    | cons a l ih =>
      rw [List.map_cons, List.map_cons, List.zipWith_cons_cons, ih]
      split <;> rfl
  · rw [decide_eq_false h, if_neg h]; simp
theorem okKey_rd (r : Rd) : okKey true (rd r) = true := rfl
theorem addR_len (l : List Rd) (r : Rd) : l.length ≤ (addR l r).length ∧ (addR l r).length ≤ l.length + 1 ∧ 1 ≤ (addR l r).length := by
  unfold addR
  split
  · rename_i h
    have := List.length_pos_of_mem h
    omega
  · rw [List.length_append, List.length_singleton]; omega
theorem addR_mem {l : List Rd} {r q : Rd} (h : q ∈ addR l r) : q ∈ l ∨ q = r := by
  unfold addR at h
  split at h
  · exact .inl h
  · rcases List.mem_append.mp h with h | h
    · exact .inl h
    · exact .inr (List.mem_singleton.mp h)
theorem sortN_rd {l : List Rd} {P : Int} (h1 : 1 ≤ l.length) (h8 : l.length ≤ 8) (hP : P ≤ 6) (hr : ∀ r ∈ l, RdOk P r) : oSortN (dS l) = .ok (.own (.lst ((sortR l).map rd))) := by
  unfold oSortN dS
  dsimp only
  rw [tups_rd]
  have hh : ((l.map k3).headD [0]).length = 3 := by
    cases l with
    | nil => cases h1
    | cons r l => rfl
  have hall : (l.map k3).all (tupB 3) = true := List.all_eq_true.mpr fun k hk => by
    obtain ⟨q, hq, rfl⟩ := List.mem_map.mp hk
    exact small_of_ok (hr q hq) hP
  rw [Res.of_some, Res.bind_ok, hh, hall, decide_eq_true (show (l.map k3).length < 64 by rw [List.length_map]; omega)]
  show Res.ok _ = _
  rw [ascU_map, List.map_map]; rfl
end Dt
end

section
set_option Elab.async false
set_option linter.all false
set_option maxRecDepth 100000
set_option maxHeartbeats 4000000
set_option autoImplicit false
namespace Dt
open PySem PySem.Spec PyProof.Rows L2
/-! ### the law's plan -/
section
variable {sc : D} {x0 mo : Int} {N : Fm} {f : Int → Int}
def envP (sc : D) (x0 mo P kd : Int) (l : List Rd) (top sh : Int) (u3 u12 u13 u14 u15 : Cell) : Env := [.fro sc, .fro (.int x0), .fro (.int mo), u3, .un, .un, .un, .fro (.int P), .fro (.int kd), .own (dS l), .fro (.int top), .fro (.int sh), u12, u13, u14, u15]
def nAt (N : Fm) (c : EF) : EF := eCall N (aCons (eVar 0) (aCons c (aNil)))
def bodyQ (N : Fm) : SF := sCons (sSet 12 (nAt N (e2 oCat (e2 oCat (eUse 1) (eC (.int 5))) (eUse 3)))) (sCons (sPar 14 15 (e2 oMod (eCB (c1 oIntOf) (aCons (eUse 12) (aNil))) (eUse 7)) (e2 oMod (eCB (c1 oIntOf) (aCons (e2 oDiv (eUse 12) (eC (.int 11))) (aNil))) (eUse 7))) (sIf (bAnd (bB (e2 oNe (eUse 14) (eUse 15))) (bB (e2 oLt (eCB (c1 oDLen) (aCons (eUse 9) (aNil))) (eUse 2)))) (sDPut 9 (eTup (aCons (eCB (c2 oMin2) (aCons (eUse 14) (aCons (eUse 15) (aNil)))) (aCons (eCB (c2 oMax2) (aCons (eUse 14) (aCons (eUse 15) (aNil)))) (aCons (e2 oCat (eC (.int 1)) (e2 oMod (eCB (c1 oIntOf) (aCons (e2 oDiv (eUse 12) (eC (.int 130))) (aNil))) (eUse 10))) (aNil))))) (eC (.bl true))) (sNil)))
@[simp] theorem z_dlen (l : List Rd) : oDLen (dS l) = .ok (.fro (.int l.length)) := by
  show Res.ok (RV.fro (.int ((l.map rd).length : Nat))) = _
  rw [List.length_map]
theorem put_S {ρ : Env} {i : Nat} {l : List Rd} {r : Rd} {fk fe : EF} (h1 : fe ρ = .ok (.fro (.bl true), ρ)) (h2 : ρ[i]? = some (.own (dS l))) (h3 : fk ρ = .ok (.fro (rd r), ρ)) (hl : l.length < sizeLine) : sDPut i fk fe ρ = .ok (.nx, ρ.set i (.own (dS (addR l r)))) := by
  have hz : (l.map rd).length < sizeLine := by rw [List.length_map]; exact hl
  rw [z_sDPut, h1, Res.bind_ok]
  have e1 : isDic i ρ = true := by unfold isDic; rw [h2]; rfl
  have e2 : putDic i (rd r) (.bl true) ρ = .ok (ρ.set i (.own (dS (addR l r)))) := by
    unfold putDic
    rw [h2]
    show (Res.need (okKey true (rd r) && decide ((l.map rd).length < sizeLine))).bind _ = _
    rw [okKey_rd, decide_eq_true hz]
    show Res.ok (ρ.set i (.own (.dic true (dPut true (l.map rd) (l.map fun _ => D.bl true) (rd r) (.bl true)).1 (dPut true (l.map rd) (l.map fun _ => D.bl true) (rd r) (.bl true)).2))) = _
    rw [dPut_S]; rfl
  show (Res.need (isDic i ρ)).bind _ = _
  rw [e1]
  show (fk ρ).bind _ = _
  rw [h3, Res.bind_ok]
  show (putDic i (rd r) (.bl true) ρ).bind _ = _
  rw [e2]; rfl
structure RdP (P top : Int) : Prop where
  p2 : 2 ≤ P
  p6 : P ≤ 6
  t1 : 1 ≤ top
  t9 : top ≤ 9
theorem bodyQ_ok (hN : ∀ k, 0 ≤ k → N [.fro sc, .fro (.int k)] = .ok (.fro (.int (f k)), [.un, .un])) {P kd top sh : Int} {l : List Rd} {u12 u13 u14 u15 : Cell} {i : Nat} (hp : RdP P top) (hx : 0 ≤ x0) (hl : l.length ≤ 8) :
    ∃ l' v12 v14 v15, bodyQ N (envP sc x0 mo P kd l top sh (.fro (.int (0 + (i : Int)))) u12 u13 u14 u15) = .ok (.nx, envP sc x0 mo P kd l' top sh (.fro (.int (0 + (i : Int)))) v12 u13 v14 v15) ∧ (l' = l ∨ ∃ r, RdOk P r ∧ (l.length : Int) < mo ∧ l' = addR l r) := by
  rw [Int.zero_add]
  have c := hN (x0 + 5 + i) (by omega)
  have z3 : 3 ≤ sizeLine := by decide
  have zl : l.length < sizeLine := Nat.lt_of_le_of_lt hl (by decide)
  obtain ⟨p2, p6, t1, t9⟩ := hp
  have p1 : 0 < P := by omega
  have pb : P < 1073741824 := by omega
  have tb : 0 < top := by omega
  have tb2 : top < 1073741824 := by omega
  generalize f (x0 + 5 + i) = s at c
  have a0 := Int.emod_nonneg s (Int.ne_of_gt p1)
  have a1 := Int.emod_lt_of_pos s p1
  have b0 := Int.emod_nonneg (s / 11) (Int.ne_of_gt p1)
  have b1 := Int.emod_lt_of_pos (s / 11) p1
  have l0 := Int.emod_nonneg (s / 130) (Int.ne_of_gt tb)
  have l1 := Int.emod_lt_of_pos (s / 130) tb
  have run1 : bodyQ N (envP sc x0 mo P kd l top sh (.fro (.int i)) u12 u13 u14 u15) = (sIf (bAnd (bB (e2 oNe (eUse 14) (eUse 15))) (bB (e2 oLt (eCB (c1 oDLen) (aCons (eUse 9) (aNil))) (eUse 2)))) (sDPut 9 (eTup (aCons (eCB (c2 oMin2) (aCons (eUse 14) (aCons (eUse 15) (aNil)))) (aCons (eCB (c2 oMax2) (aCons (eUse 14) (aCons (eUse 15) (aNil)))) (aCons (e2 oCat (eC (.int 1)) (e2 oMod (eCB (c1 oIntOf) (aCons (e2 oDiv (eUse 12) (eC (.int 130))) (aNil))) (eUse 10))) (aNil))))) (eC (.bl true))) (sNil)) (envP sc x0 mo P kd l top sh (.fro (.int i)) (.fro (.int s)) u13 (.fro (.int (s % P))) (.fro (.int (s / 11 % P)))) := by
    simp [bodyQ, envP, nAt, c, p1, pb]
  rw [run1]
  by_cases hab : s % P = s / 11 % P
  · refine ⟨l, .fro (.int s), .fro (.int (s % P)), .fro (.int (s / 11 % P)), ?_, .inl rfl⟩
    simp [envP, hab]
  · by_cases hlm : (l.length : Int) < mo
    · refine ⟨addR l (if s / 11 % P < s % P then s / 11 % P else s % P, if s / 11 % P > s % P then s / 11 % P else s % P, 1 + s / 130 % top), .fro (.int s), .fro (.int (s % P)), .fro (.int (s / 11 % P)), ?_, .inr ⟨_, ⟨?_, ?_, ?_, ?_, ?_⟩, hlm, rfl⟩⟩
      · have hc : (bAnd (bB (e2 oNe (eUse 14) (eUse 15))) (bB (e2 oLt (eCB (c1 oDLen) (aCons (eUse 9) (aNil))) (eUse 2)))) (envP sc x0 mo P kd l top sh (.fro (.int i)) (.fro (.int s)) u13 (.fro (.int (s % P))) (.fro (.int (s / 11 % P)))) = .ok (true, envP sc x0 mo P kd l top sh (.fro (.int i)) (.fro (.int s)) u13 (.fro (.int (s % P))) (.fro (.int (s / 11 % P)))) := by
          simp [envP, hab, hlm]
        rw [z_sIf, hc, Res.bind_ok, if_pos rfl]
        refine put_S (l := l) rfl rfl ?_ zl
        simp [envP, tb, tb2, z3, rd]
      · show 0 ≤ (if s / 11 % P < s % P then s / 11 % P else s % P)
        split <;> omega
      · show (if s / 11 % P < s % P then s / 11 % P else s % P) < (if s / 11 % P > s % P then s / 11 % P else s % P)
        split <;> split <;> omega
      · show (if s / 11 % P > s % P then s / 11 % P else s % P) < P
        split <;> omega
      · show 1 ≤ 1 + _ % _
        omega
      · show 1 + _ % _ ≤ 9
        omega
    · refine ⟨l, .fro (.int s), .fro (.int (s % P)), .fro (.int (s / 11 % P)), ?_, .inl rfl⟩
      simp [envP, hab, hlm]
theorem loopP (hN : ∀ k, 0 ≤ k → N [.fro sc, .fro (.int k)] = .ok (.fro (.int (f k)), [.un, .un])) {P kd top sh : Int} {u13 : Cell} (hp : RdP P top) (hx : 0 ≤ x0) (hm : mo ≤ 8) : ∀ (is : List Nat) (l : List Rd) (u3 u12 u14 u15 : Cell), (l.length : Int) ≤ mo → (∀ r ∈ l, RdOk P r) →
    ∃ l' v3 v12 v14 v15, forL (gN 3) (bodyQ N) (is.map fun i : Nat => D.int (0 + (i : Int))) (envP sc x0 mo P kd l top sh u3 u12 u13 u14 u15) = .ok (.nx, envP sc x0 mo P kd l' top sh v3 v12 u13 v14 v15) ∧ (l'.length : Int) ≤ mo ∧ l'.length ≤ l.length + is.length ∧ ∀ r ∈ l', RdOk P r
  | [], l, u3, u12, u14, u15, hl, hr => ⟨l, u3, u12, u14, u15, rfl, hl, Nat.le_refl _, hr⟩
  | i :: is, l, u3, u12, u14, u15, hl, hr => by
    obtain ⟨l1, v12, v14, v15, e, hl1⟩ := bodyQ_ok (f := f) (mo := mo) (kd := kd) (sh := sh) (l := l) (u12 := u12) (u13 := u13) (u14 := u14) (u15 := u15) (i := i) hN hp hx (by omega)
    have h1 : (l1.length : Int) ≤ mo ∧ l1.length ≤ l.length + 1 ∧ ∀ r ∈ l1, RdOk P r := by
      rcases hl1 with rfl | ⟨r, ok, hlt, rfl⟩
      · exact ⟨hl, Nat.le_succ _, hr⟩
      · obtain ⟨a, b, c⟩ := addR_len l r
        refine ⟨by omega, b, fun q hq => ?_⟩
        rcases addR_mem hq with hq | rfl
        · exact hr q hq
        · exact ok
    obtain ⟨l', v3, w12, w14, w15, e2, g1, g2, g3⟩ := loopP hN (kd := kd) (sh := sh) (u13 := u13) hp hx hm is l1 (.fro (.int (0 + (i : Int)))) v12 v14 v15 h1.1 h1.2.2
    refine ⟨l', v3, w12, w14, w15, ?_, g1, by rw [List.length_cons]; omega, g3⟩
    rw [List.map_cons, forL, show gN 3 (D.int (0 + (i : Int))) (envP sc x0 mo P kd l top sh u3 u12 u13 u14 u15) = .ok (envP sc x0 mo P kd l top sh (.fro (.int (0 + (i : Int)))) u12 u13 u14 u15) from rfl, Res.bind_ok, e, Res.bind_ok]
    exact e2
def bodyRr : SF := sIf (bB (e2 oLt (eCB (c1 oDLen) (aCons (eUse 9) (aNil))) (eC (.int 8)))) (sDPut 9 (eTup (aCons (eVar 13) (aCons (e2 oCat (eUse 13) (eC (.int 1))) (aCons (eVar 11) (aNil))))) (eC (.bl true))) (sNil)
theorem bodyRr_ok {P kd top sh : Int} {l : List Rd} {u3 u12 u14 u15 : Cell} {i : Nat} (hi : (i : Int) + 1 < P) (s1 : 1 ≤ sh) (s2 : sh ≤ 9) :
    ∃ l', bodyRr (envP sc x0 mo P kd l top sh u3 u12 (.fro (.int (0 + (i : Int)))) u14 u15) = .ok (.nx, envP sc x0 mo P kd l' top sh u3 u12 (.fro (.int (0 + (i : Int)))) u14 u15) ∧ (l' = l ∨ ∃ r, RdOk P r ∧ l.length < 8 ∧ l' = addR l r) := by
  rw [Int.zero_add]
  have z3 : 3 ≤ sizeLine := by decide
  by_cases h : l.length < 8
  · have hh : (l.length : Int) < 8 := by omega
    have zl : l.length < sizeLine := Nat.lt_of_lt_of_le h (by decide)
    refine ⟨addR l ((i : Int), (i : Int) + 1, sh), ?_, .inr ⟨_, ⟨?_, ?_, ?_, s1, s2⟩, h, rfl⟩⟩
    · have hc : (bB (e2 oLt (eCB (c1 oDLen) (aCons (eUse 9) (aNil))) (eC (.int 8)))) (envP sc x0 mo P kd l top sh u3 u12 (.fro (.int (i : Int))) u14 u15) = .ok (true, envP sc x0 mo P kd l top sh u3 u12 (.fro (.int (i : Int))) u14 u15) := by
        simp [envP, hh]
      rw [bodyRr, z_sIf, hc, Res.bind_ok, if_pos rfl]
      refine put_S (l := l) rfl rfl ?_ zl
      simp [envP, z3, rd]
    · show 0 ≤ (i : Int)
      omega
    · show (i : Int) < (i : Int) + 1
      omega
    · exact hi
  · have hh : ¬ (l.length : Int) < 8 := by omega
    refine ⟨l, ?_, .inl rfl⟩
    simp [bodyRr, envP, hh]
theorem loopRr {P kd top sh : Int} {u3 u12 u14 u15 : Cell} (s1 : 1 ≤ sh) (s2 : sh ≤ 9) : ∀ (is : List Nat) (l : List Rd) (u13 : Cell), (∀ i ∈ is, (i : Int) + 1 < P) → l.length ≤ 8 → 1 ≤ l.length → (∀ r ∈ l, RdOk P r) →
    ∃ l' v13, forL (gN 13) bodyRr (is.map fun i : Nat => D.int (0 + (i : Int))) (envP sc x0 mo P kd l top sh u3 u12 u13 u14 u15) = .ok (.nx, envP sc x0 mo P kd l' top sh u3 u12 v13 u14 u15) ∧ l'.length ≤ 8 ∧ 1 ≤ l'.length ∧ ∀ r ∈ l', RdOk P r
  | [], l, u13, _, hl, hl1, hr => ⟨l, u13, rfl, hl, hl1, hr⟩
  | i :: is, l, u13, hi, hl, hl1, hr => by
    obtain ⟨l1, e, hl2⟩ := bodyRr_ok (sc := sc) (x0 := x0) (mo := mo) (kd := kd) (top := top) (l := l) (u3 := u3) (u12 := u12) (u14 := u14) (u15 := u15) (hi i (List.mem_cons_self ..)) s1 s2
    have h1 : l1.length ≤ 8 ∧ 1 ≤ l1.length ∧ ∀ r ∈ l1, RdOk P r := by
      rcases hl2 with rfl | ⟨r, ok, hlt, rfl⟩
      · exact ⟨hl, hl1, hr⟩
      · obtain ⟨a, b, c⟩ := addR_len l r
        refine ⟨by omega, c, fun q hq => ?_⟩
        rcases addR_mem hq with hq | rfl
        · exact hr q hq
        · exact ok
    obtain ⟨l', v13, e2, g1, g2, g3⟩ := loopRr (kd := kd) (top := top) (u3 := u3) (u12 := u12) (u14 := u14) (u15 := u15) s1 s2 is l1 (.fro (.int (0 + (i : Int)))) (fun j hj => hi j (List.mem_cons_of_mem _ hj)) h1.1 h1.2.1 h1.2.2
    refine ⟨l', v13, ?_, g1, g2, g3⟩
    rw [List.map_cons, forL, show gN 13 (D.int (0 + (i : Int))) (envP sc x0 mo P kd l top sh u3 u12 u13 u14 u15) = .ok (envP sc x0 mo P kd l top sh u3 u12 (.fro (.int (0 + (i : Int)))) u14 u15) from rfl, Res.bind_ok, e, Res.bind_ok]
    exact e2
end
end Dt
end

section
set_option Elab.async false
set_option linter.all false
set_option maxRecDepth 100000
set_option maxHeartbeats 4000000
set_option autoImplicit false
namespace Dt
open PySem PySem.Spec PyProof.Rows L2
section
variable {sc : D} {x0 mo : Int} {N : Fm} {f : Int → Int}
def eMd (N : Fm) (k m : Int) : EF := e2 oMod (eCB (c1 oIntOf) (aCons (nAt N (e2 oCat (eUse 1) (eC (.int k)))) (aNil))) (eC (.int m))
def p1S (N : Fm) : SF := sParL [7, 8, 9] (aoCons (e2 oCat (eC (.int 2)) (e2 oMod (eCB (c1 oIntOf) (aCons (nAt N (eVar 1)) (aNil))) (eC (.int 3)))) (aoCons (eMd N 3 4) (aoCons (eDNew true) (aoNil))))
def p2S (N : Fm) : SF := sPar 10 11 (e2 oIx (eTup (aCons (eC (.int 2)) (aCons (eC (.int 9)) (aNil)))) (eMd N 1 2)) (e2 oCat (eC (.int 1)) (eMd N 22 2))
def p3I (N : Fm) : IF := iRange1 (aCons (e2 oCat (e2 oMod (eCB (c1 oIntOf) (aCons (nAt N (e2 oCat (eUse 1) (eC (.int 2)))) (aNil))) (eUse 2)) (eIf (bB (e2 oEq (eUse 8) (eC (.int 0)))) (eC (.int 1)) (eC (.int 0)))) (aNil))
def p4S : SF := sIf (bOr (bB (e2 oEqE (eUse 9) (eDNew true))) (bB (e2 oGt (eUse 8) (eC (.int 1))))) (sDPut 9 (eTup (aCons (eC (.int 0)) (aCons (e2 oSub (eUse 7) (eC (.int 1))) (aCons (eVar 10) (aNil))))) (eC (.bl true))) (sNil)
def p5S : SF := sIf (bB (e2 oGt (eUse 8) (eC (.int 0)))) (sFor (gN 13) (iRange1 (aCons (e2 oSub (eUse 7) (eC (.int 1))) (aNil))) bodyRr) (sNil)
def p6S (N : Fm) : SF := sSet 4 (eIf (bB (e2 oEq (eUse 8) (eC (.int 0)))) (e2 oMod (eCB (c1 oIntOf) (aCons (nAt N (e2 oCat (eUse 1) (eC (.int 4)))) (aNil))) (eUse 7)) (eC (.int 0)))
def p7S (N : Fm) : SF := sSet 5 (eIf (bB (e2 oEq (eUse 8) (eC (.int 0)))) (e2 oMod (eCB (c1 oIntOf) (aCons (e2 oCat (e2 oCat (eUse 4) (eC (.int 1))) (e2 oMod (eCB (c1 oIntOf) (aCons (nAt N (e2 oCat (eUse 1) (eC (.int 20)))) (aNil))) (e2 oSub (eUse 7) (eC (.int 1))))) (aNil))) (eUse 7)) (e2 oSub (eUse 7) (eC (.int 1))))
def p8S (N : Fm) : SF := sSet 6 (eIf (bB (e2 oEq (eMd N 23 2) (eC (.int 0)))) (eTup (aCons (eVar 4) (aCons (eVar 5) (aNil)))) (eTup (aCons (eVar 5) (aCons (eVar 4) (aNil)))))
def p9S (N : Fm) : SF := sRet (eTup (aCons (eVar 7) (aCons (eCB (c1 oTupOf) (aCons (eCB (c1 oSortN) (aCons (eUse 9) (aNil))) (aNil))) (aCons (eVar 6) (aCons (eMd N 21 4) (aNil))))))
def planB (N : Fm) : SF := sCons (p1S N) (sCons (p2S N) (sCons (sFor (gN 3) (p3I N) (bodyQ N)) (sCons p4S (sCons p5S (sCons (p6S N) (sCons (p7S N) (sCons (p8S N) (p9S N))))))))
theorem plan_is : F__law_plan = runF 3 13 (planB F__law_number) := rfl
variable (hN : ∀ k, 0 ≤ k → N [.fro sc, .fro (.int k)] = .ok (.fro (.int (f k)), [.un, .un])) (hx : 0 ≤ x0)
include hN hx
theorem p1S_ok : p1S N [.fro sc, .fro (.int x0), .fro (.int mo), .un, .un, .un, .un, .un, .un, .un, .un, .un, .un, .un, .un, .un] = .ok (.nx, [.fro sc, .fro (.int x0), .fro (.int mo), .un, .un, .un, .un, .fro (.int (2 + f x0 % 3)), .fro (.int (f (x0 + 3) % 4)), .own (dS []), .un, .un, .un, .un, .un, .un]) := by
  have c0 := hN x0 hx
  have c3 := hN (x0 + 3) (by omega)
  have d : dS [] = .dic true [] [] := rfl
  rw [d]
  simp [p1S, eMd, nAt, c0, c3, sParL, aoCons, aoNil, storeCs, setAll, eDNew]
theorem p2S_ok {P kd : Int} : ∃ top sh, (1 ≤ top ∧ top ≤ 9) ∧ (1 ≤ sh ∧ sh ≤ 9) ∧ p2S N [.fro sc, .fro (.int x0), .fro (.int mo), .un, .un, .un, .un, .fro (.int P), .fro (.int kd), .own (dS []), .un, .un, .un, .un, .un, .un] = .ok (.nx, envP sc x0 mo P kd [] top sh .un .un .un .un .un) := by
  have c1' := hN (x0 + 1) (by omega)
  have c22 := hN (x0 + 22) (by omega)
  generalize f (x0 + 1) = a at c1'
  generalize f (x0 + 22) = b at c22
  have z2 : 2 ≤ sizeLine := by decide
  have q0 : oIx (.tup [.int 2, .int 9]) (.int 0) = .ok (.fro (.int 2)) := rfl
  have q1 : oIx (.tup [.int 2, .int 9]) (.int 1) = .ok (.fro (.int 9)) := rfl
  have ha : a % 2 = 0 ∨ a % 2 = 1 := by omega
  have hb : 1 ≤ 1 + b % 2 ∧ 1 + b % 2 ≤ 9 := by omega
  rcases ha with ha | ha
  · refine ⟨2, 1 + b % 2, ⟨by decide, by decide⟩, hb, ?_⟩
    simp [p2S, envP, eMd, nAt, c1', c22, ha, q0, z2]
  · refine ⟨9, 1 + b % 2, ⟨by decide, by decide⟩, hb, ?_⟩
    simp [p2S, envP, eMd, nAt, c1', c22, ha, q1, z2]
theorem p3I_ok {P kd top sh : Int} {l : List Rd} {u3 u12 u13 u14 u15 : Cell} (hm : mo = 3 ∨ mo = 5 ∨ mo = 8) : ∃ n : Nat, (kd ≠ 0 → (n : Int) + 1 ≤ mo) ∧ (n : Int) ≤ mo ∧ p3I N (envP sc x0 mo P kd l top sh u3 u12 u13 u14 u15) = .ok (intsD 0 n, envP sc x0 mo P kd l top sh u3 u12 u13 u14 u15) := by
  have c2' := hN (x0 + 2) (by omega)
  generalize f (x0 + 2) = a at c2'
  have m0 : 0 < mo := by omega
  have mb : mo < 1073741824 := by omega
  have a0 := Int.emod_nonneg a (Int.ne_of_gt m0)
  have a1 := Int.emod_lt_of_pos a m0
  by_cases hk : kd = 0
  · have hsm : small (a % mo + 1) = true := by
      unfold small
      rw [Bool.and_eq_true]
      exact ⟨decide_eq_true (by omega), decide_eq_true (by omega)⟩
    refine ⟨(a % mo + 1).toNat, fun h => absurd hk h, by omega, ?_⟩
    subst hk
    simp [p3I, iRange1, envP, nAt, c2', m0, mb, hsm]
  · have hsm : small (a % mo) = true := by
      unfold small
      rw [Bool.and_eq_true]
      exact ⟨decide_eq_true (by omega), decide_eq_true (by omega)⟩
    refine ⟨(a % mo).toNat, fun h => by omega, by omega, ?_⟩
    simp [p3I, iRange1, envP, nAt, c2', m0, mb, hsm, hk]
end
section
variable {sc : D} {x0 mo : Int} {N : Fm} {f : Int → Int}
theorem eqE_S (l : List Rd) : oEqE (dS l) (.dic true [] []) = .ok (.fro (.bl l.isEmpty)) := by cases l <;> rfl
theorem p4S_ok {P kd top sh : Int} {l : List Rd} {u3 u12 u13 u14 u15 : Cell} (hp : RdP P top) (hm : mo ≤ 8) (hl : (l.length : Int) ≤ mo) (hk : 1 < kd → (l.length : Int) + 1 ≤ mo) (h3 : 3 ≤ mo) (hr : ∀ r ∈ l, RdOk P r) :
    ∃ l', p4S (envP sc x0 mo P kd l top sh u3 u12 u13 u14 u15) = .ok (.nx, envP sc x0 mo P kd l' top sh u3 u12 u13 u14 u15) ∧ l'.length ≤ 8 ∧ 1 ≤ l'.length ∧ ∀ r ∈ l', RdOk P r := by
  have z3 : 3 ≤ sizeLine := by decide
  have ok : RdOk P (0, P - 1, top) := ⟨Int.le_refl 0, by show (0 : Int) < P - 1; have := hp.p2; omega, by show P - 1 < P; omega, hp.t1, hp.t9⟩
  have eE := eqE_S l
  by_cases h : l = [] ∨ 1 < kd
  · refine ⟨addR l (0, P - 1, top), ?_, ?_, (addR_len l _).2.2, fun q hq => ?_⟩
    · have hc : (bOr (bB (e2 oEqE (eUse 9) (eDNew true))) (bB (e2 oGt (eUse 8) (eC (.int 1))))) (envP sc x0 mo P kd l top sh u3 u12 u13 u14 u15) = .ok (true, envP sc x0 mo P kd l top sh u3 u12 u13 u14 u15) := by
        rcases h with h | h
        · subst h
          simp [envP, eDNew, eE]
        · cases hE : l.isEmpty with
          | true => rw [hE] at eE; simp [envP, eDNew, eE]
          | false => rw [hE] at eE; simp [envP, eDNew, eE, h]
      rw [p4S, z_sIf, hc, Res.bind_ok, if_pos rfl]
      refine put_S (l := l) rfl rfl ?_ (Nat.lt_of_le_of_lt (show l.length ≤ 8 by omega) (by decide))
      simp [envP, z3, rd]
    · have := (addR_len l (0, P - 1, top)).2.1
      rcases h with h | h
      · subst h
        simp at this
        omega
      · have := hk h
        omega
    · rcases addR_mem hq with hq | rfl
      · exact hr q hq
      · exact ok
  · have h1 : l ≠ [] := fun e => h (.inl e)
    have h2 : ¬ 1 < kd := fun e => h (.inr e)
    have hE : l.isEmpty = false := by cases l with
      | nil => exact absurd rfl h1
      | cons a l => rfl
    rw [hE] at eE
    refine ⟨l, ?_, by omega, List.length_pos_iff.mpr h1, hr⟩
    simp [p4S, envP, eDNew, eE, h2]
theorem p5S_ok {P kd top sh : Int} {l : List Rd} {u3 u12 u13 u14 u15 : Cell} (p2 : 2 ≤ P) (p6 : P ≤ 6) (s1 : 1 ≤ sh) (s2 : sh ≤ 9) (h8 : l.length ≤ 8) (h1 : 1 ≤ l.length) (hr : ∀ r ∈ l, RdOk P r) :
    ∃ l' v13, p5S (envP sc x0 mo P kd l top sh u3 u12 u13 u14 u15) = .ok (.nx, envP sc x0 mo P kd l' top sh u3 u12 v13 u14 u15) ∧ l'.length ≤ 8 ∧ 1 ≤ l'.length ∧ ∀ r ∈ l', RdOk P r := by
  by_cases hk : 0 < kd
  · obtain ⟨l', v13, e, g1, g2, g3⟩ := loopRr (sc := sc) (x0 := x0) (mo := mo) (kd := kd) (top := top) (u3 := u3) (u12 := u12) (u14 := u14) (u15 := u15) s1 s2 (List.range (P - 1).toNat) l u13 (fun i hi => by
      have := List.mem_range.mp hi
      omega) h8 h1 hr
    refine ⟨l', v13, ?_, g1, g2, g3⟩
    have hc : (bB (e2 oGt (eUse 8) (eC (.int 0)))) (envP sc x0 mo P kd l top sh u3 u12 u13 u14 u15) = .ok (true, envP sc x0 mo P kd l top sh u3 u12 u13 u14 u15) := by
      simp [envP, hk]
    have hsm : small (P - 1) = true := by
      unfold small
      rw [Bool.and_eq_true]
      exact ⟨decide_eq_true (by omega), decide_eq_true (by omega)⟩
    have hi : iRange1 (aCons (e2 oSub (eUse 7) (eC (.int 1))) (aNil)) (envP sc x0 mo P kd l top sh u3 u12 u13 u14 u15) = .ok (intsD 0 (P - 1).toNat, envP sc x0 mo P kd l top sh u3 u12 u13 u14 u15) := by
      simp [iRange1, envP, hsm]
    rw [p5S, z_sIf, hc, Res.bind_ok, if_pos rfl, z_sFor, hi, Res.bind_ok]
    exact e
  · refine ⟨l, u13, ?_, h8, h1, hr⟩
    simp [p5S, envP, hk]
def envE (sc : D) (x0 mo P kd : Int) (l : List Rd) (top sh : Int) (b g : Int) (ends : Cell) (u3 u12 u13 u14 u15 : Cell) : Env := [.fro sc, .fro (.int x0), .fro (.int mo), u3, .fro (.int b), .fro (.int g), ends, .fro (.int P), .fro (.int kd), .own (dS l), .fro (.int top), .fro (.int sh), u12, u13, u14, u15]
theorem p67_ok (hN : ∀ k, 0 ≤ k → N [.fro sc, .fro (.int k)] = .ok (.fro (.int (f k)), [.un, .un])) (hx : 0 ≤ x0) {P kd top sh : Int} {l : List Rd} {u3 u12 u13 u14 u15 : Cell} (p2 : 2 ≤ P) (p6 : P ≤ 6) (F : SF) :
    ∃ b g, (0 ≤ b ∧ b < P ∧ 0 ≤ g ∧ g < P ∧ b ≠ g) ∧ sCons (p6S N) (sCons (p7S N) F) (envP sc x0 mo P kd l top sh u3 u12 u13 u14 u15) = F (envE sc x0 mo P kd l top sh b g .un u3 u12 u13 u14 u15) := by
  have c4 := hN (x0 + 4) (by omega)
  have c20 := hN (x0 + 20) (by omega)
  generalize f (x0 + 4) = a at c4
  generalize f (x0 + 20) = b at c20
  have p1 : 0 < P := by omega
  have pb : P < 1073741824 := by omega
  have q1 : 1 < P := by omega
  have qb : P - 1 < 1073741824 := by omega
  obtain ⟨a1, a2, a3, a4, a5⟩ := two_places (c := a) (e := b) p2 p6
  generalize ho : a % P = o at *
  generalize hq : (o + 1 + b % (P - 1)) % P = q at *
  by_cases hk : kd = 0
  · subst hk
    refine ⟨o, q, ⟨a1, a2, a3, a4, a5⟩, ?_⟩
    have e6 : p6S N (envP sc x0 mo P 0 l top sh u3 u12 u13 u14 u15) = .ok (.nx, (envP sc x0 mo P 0 l top sh u3 u12 u13 u14 u15).set 4 (.fro (.int o))) := by
      simp [p6S, envP, nAt, c4, p1, pb, ho]
    have e7 : p7S N ((envP sc x0 mo P 0 l top sh u3 u12 u13 u14 u15).set 4 (.fro (.int o))) = .ok (.nx, envE sc x0 mo P 0 l top sh o q .un u3 u12 u13 u14 u15) := by
      simp [p7S, envP, envE, nAt, c20, p1, pb, q1, qb, hq]
    rw [z_sCons, e6, Res.bind_ok]
    show sCons _ _ _ = _
    rw [z_sCons, e7, Res.bind_ok]
  · refine ⟨0, P - 1, ⟨by omega, by omega, by omega, by omega, by omega⟩, ?_⟩
    have e6 : p6S N (envP sc x0 mo P kd l top sh u3 u12 u13 u14 u15) = .ok (.nx, (envP sc x0 mo P kd l top sh u3 u12 u13 u14 u15).set 4 (.fro (.int 0))) := by
      simp [p6S, envP, nAt, hk]
    have e7 : p7S N ((envP sc x0 mo P kd l top sh u3 u12 u13 u14 u15).set 4 (.fro (.int 0))) = .ok (.nx, envE sc x0 mo P kd l top sh 0 (P - 1) .un u3 u12 u13 u14 u15) := by
      simp [p7S, envP, envE, nAt, hk]
    rw [z_sCons, e6, Res.bind_ok]
    show sCons _ _ _ = _
    rw [z_sCons, e7, Res.bind_ok]
theorem p89_ok (hN : ∀ k, 0 ≤ k → N [.fro sc, .fro (.int k)] = .ok (.fro (.int (f k)), [.un, .un])) (hx : 0 ≤ x0) {P kd top sh b g : Int} {l : List Rd} {u3 u12 u13 u14 u15 : Cell} (p2 : 2 ≤ P) (p6 : P ≤ 6) (h8 : l.length ≤ 8) (h1 : 1 ≤ l.length) (hr : ∀ r ∈ l, RdOk P r)
    (hb0 : 0 ≤ b) (hbP : b < P) (hg0 : 0 ≤ g) (hgP : g < P) (hbg : b ≠ g) : ∃ (p : Pl) (ρ : Env), p.Ok ∧ p.P = P ∧ sCons (p8S N) (p9S N) (envE sc x0 mo P kd l top sh b g .un u3 u12 u13 u14 u15) = .ok (.ret (.fro p.pl), ρ) ∧ ρ.length = 16 ∧ (ρ.take 3).map outC = [.un, .un, .un] := by
  have c23 := hN (x0 + 23) (by omega)
  have c21 := hN (x0 + 21) (by omega)
  generalize f (x0 + 23) = a at c23
  generalize f (x0 + 21) = m at c21
  have z2 : 2 ≤ sizeLine := by decide
  have z4 : 4 ≤ sizeLine := by decide
  have hs := sortN_rd h1 h8 p6 hr
  have r1 : 1 ≤ (sortR l).length := by
    cases l with
    | nil => cases h1
    | cons r l =>
      obtain ⟨z, hz, _⟩ := ascU_has (f := fun r => TS.code 64 (k3 r)) (List.mem_cons_self (a := r) (l := l))
      exact List.length_pos_of_mem hz
  have r8 : (sortR l).length ≤ 8 := Nat.le_trans (ascU_len _ l) h8
  have rok : ∀ r ∈ sortR l, RdOk P r := fun r hr' => hr r (ascU_sub hr')
  by_cases ha : a % 2 = 0
  · refine ⟨⟨P, sortR l, b, g, m % 4⟩, envE sc x0 mo P kd l top sh b g (.fro (.tup [.int b, .int g])) u3 u12 u13 u14 u15, ⟨p2, p6, r1, r8, rok, ascU_asc l, hb0, hbP, hg0, hgP, hbg, by show 0 ≤ _ % 4; omega, by show _ % 4 ≤ 3; omega⟩, rfl, ?_, rfl, rfl⟩
    have e8 : p8S N (envE sc x0 mo P kd l top sh b g .un u3 u12 u13 u14 u15) = .ok (.nx, envE sc x0 mo P kd l top sh b g (.fro (.tup [.int b, .int g])) u3 u12 u13 u14 u15) := by
      simp [p8S, envE, eMd, nAt, c23, ha, z2]
    rw [z_sCons, e8, Res.bind_ok]
    show p9S N _ = _
    simp [p9S, envE, eMd, nAt, c21, hs, z4, Pl.pl, Pl.ds]
  · refine ⟨⟨P, sortR l, g, b, m % 4⟩, envE sc x0 mo P kd l top sh b g (.fro (.tup [.int g, .int b])) u3 u12 u13 u14 u15, ⟨p2, p6, r1, r8, rok, ascU_asc l, hg0, hgP, hb0, hbP, fun e => hbg e.symm, by show 0 ≤ _ % 4; omega, by show _ % 4 ≤ 3; omega⟩, rfl, ?_, rfl, rfl⟩
    have e8 : p8S N (envE sc x0 mo P kd l top sh b g .un u3 u12 u13 u14 u15) = .ok (.nx, envE sc x0 mo P kd l top sh b g (.fro (.tup [.int g, .int b])) u3 u12 u13 u14 u15) := by
      simp [p8S, envE, eMd, nAt, c23, ha, z2]
    rw [z_sCons, e8, Res.bind_ok]
    show p9S N _ = _
    simp [p9S, envE, eMd, nAt, c21, hs, z4, Pl.pl, Pl.ds]
end
end Dt
end

section
set_option Elab.async false
set_option linter.all false
set_option maxRecDepth 100000
set_option maxHeartbeats 4000000
set_option autoImplicit false
namespace Dt
open PySem PySem.Spec PyProof.Rows L2
section
variable {sc : D} {x0 mo : Int} {N : Fm} {f : Int → Int}
theorem planB_ok (hN : ∀ k, 0 ≤ k → N [.fro sc, .fro (.int k)] = .ok (.fro (.int (f k)), [.un, .un])) (hx : 0 ≤ x0) (hm : mo = 3 ∨ mo = 5 ∨ mo = 8) :
    ∃ (p : Pl) (ρ : Env), p.Ok ∧ p.P ≤ 4 ∧ planB N [.fro sc, .fro (.int x0), .fro (.int mo), .un, .un, .un, .un, .un, .un, .un, .un, .un, .un, .un, .un, .un] = .ok (.ret (.fro p.pl), ρ) ∧ ρ.length = 16 ∧ (ρ.take 3).map outC = [.un, .un, .un] := by
  have m8 : mo ≤ 8 := by omega
  have m3 : 3 ≤ mo := by omega
  have e1 := p1S_ok (mo := mo) hN hx
  have p2 : 2 ≤ 2 + f x0 % 3 := by omega
  have p4 : 2 + f x0 % 3 ≤ 4 := by omega
  generalize 2 + f x0 % 3 = P at e1 p2 p4
  generalize f (x0 + 3) % 4 = kd at e1
  obtain ⟨top, sh, ⟨t1, t9⟩, ⟨s1, s9⟩, e2⟩ := p2S_ok (mo := mo) hN hx (P := P) (kd := kd)
  have hp : RdP P top := ⟨p2, by omega, t1, t9⟩
  obtain ⟨n, hn1, hn2, e3⟩ := p3I_ok hN hx (P := P) (kd := kd) (top := top) (sh := sh) (l := []) (u3 := .un) (u12 := .un) (u13 := .un) (u14 := .un) (u15 := .un) hm
  obtain ⟨l3, v3, v12, v14, v15, e3', g1, g2, g3⟩ := loopP (mo := mo) hN (kd := kd) (sh := sh) (u13 := .un) hp hx m8 (List.range n) [] .un .un .un .un (by simp; omega) (fun r hr => by cases hr)
  rw [List.length_range] at g2
  obtain ⟨l4, e4, h4, h4', r4⟩ := p4S_ok (sc := sc) (x0 := x0) (mo := mo) (kd := kd) (sh := sh) (u3 := v3) (u12 := v12) (u13 := .un) (u14 := v14) (u15 := v15) hp m8 g1 (fun hk => by
    have := hn1 (by omega)
    simp at g2
    omega) m3 g3
  obtain ⟨l5, v13, e5, h5, h5', r5⟩ := p5S_ok (sc := sc) (x0 := x0) (mo := mo) (kd := kd) (top := top) (u3 := v3) (u12 := v12) (u13 := .un) (u14 := v14) (u15 := v15) p2 (by omega) s1 s9 h4 h4' r4
  obtain ⟨b, g, ⟨hb0, hbP, hg0, hgP, hbg⟩, e67⟩ := p67_ok (mo := mo) hN hx (kd := kd) (top := top) (sh := sh) (l := l5) (u3 := v3) (u12 := v12) (u13 := v13) (u14 := v14) (u15 := v15) p2 (by omega) (sCons (p8S N) (p9S N))
  obtain ⟨p, ρ, hok, hP, e89, l16, t3⟩ := p89_ok (mo := mo) hN hx (kd := kd) (top := top) (sh := sh) (u3 := v3) (u12 := v12) (u13 := v13) (u14 := v14) (u15 := v15) p2 (by omega) h5 h5' r5 hb0 hbP hg0 hgP hbg
  refine ⟨p, ρ, hok, by omega, ?_, l16, t3⟩
  have ef : sFor (gN 3) (p3I N) (bodyQ N) (envP sc x0 mo P kd [] top sh .un .un .un .un .un) = .ok (.nx, envP sc x0 mo P kd l3 top sh v3 v12 .un v14 v15) := by
    rw [z_sFor, e3, Res.bind_ok]
    exact e3'
  unfold planB
  rw [z_sCons, e1, Res.bind_ok]
  show sCons _ _ _ = _
  rw [z_sCons, e2, Res.bind_ok]
  show sCons _ _ _ = _
  rw [z_sCons, ef, Res.bind_ok]
  show sCons _ _ _ = _
  rw [z_sCons, e4, Res.bind_ok]
  show sCons _ _ _ = _
  rw [z_sCons, e5, Res.bind_ok]
  show sCons _ _ _ = _
  rw [e67]
  exact e89
end
theorem m_plan (ns : List Int) {mo : Int} (hm : mo = 3 ∨ mo = 5 ∨ mo = 8) : ∃ p : Pl, p.Ok ∧ p.P ≤ 4 ∧ F__law_plan [.fro (.scr ns), .fro (.int 10), .fro (.int mo)] = .ok (.fro p.pl, [.un, .un, .un]) := by
  obtain ⟨p, ρ, h, h4, e, l16, t3⟩ := planB_ok (sc := .scr ns) (x0 := 10) (N := F__law_number) (f := numV ns) (fun k hk => m_number ns hk) (by decide) hm
  refine ⟨p, h, h4, ?_⟩
  rw [plan_is]
  have := runF_fro (n := 3) (m := 13) (cs := [.fro (.scr ns), .fro (.int 10), .fro (.int mo)]) e rfl rfl (by rw [l16]; decide)
  rw [t3] at this
  exact this
end Dt
end

section
set_option Elab.async false
set_option linter.all false
set_option maxRecDepth 100000
set_option maxHeartbeats 4000000
set_option autoImplicit false
namespace Dt
open PySem PySem.Spec PyProof.Rows L2
/-! ### what the law asks of walks -/
theorem walkN_in {p : Pl} {W : List Int} {ru : Ru} : ∀ {n : Nat} {x : Int} {s : List Int × List Int} {fo : List Int} {z : List Int × Int}, walkN p W ru n x s fo = some z → (∀ r ∈ fo, 0 ≤ r ∧ r < p.rs.length) → (∀ r ∈ z.1, 0 ≤ r ∧ r < p.rs.length) ∧ z.1.length ≤ fo.length + n
  | 0, _, _, _, _, h, _ => by cases h
  | n + 1, x, s, fo, z, h, hf => by
    rw [walkN] at h
    split at h
    · cases h; exact ⟨hf, Nat.le_add_right _ _⟩
    · rename_i r e
      split at h
      · cases h; exact ⟨hf, Nat.le_add_right _ _⟩
      · have := walkN_in h (fun q hq => by
          rcases List.mem_append.mp hq with hq | hq
          · exact hf q hq
          · rw [List.mem_singleton.mp hq]
            exact at_in p.rs x _ (choice_at e))
        rw [List.length_append, List.length_singleton] at this
        exact ⟨this.1, by omega⟩
def lenW (p : Pl) (W : List Int) (ru : Ru) : Option Int := if (walkOf p W ru).2 = p.g then some (((walkOf p W ru).1.map (lenR p.rs)).sum) else none
abbrev Most := Option (Int × List Int)
def stepM (z : Option Int) (m : Most) (W : List Int) : Most := match z, m with
  | none, m => m
  | some z, none => some (z, W)
  | some z, some a => if a.1 < z then some (z, W) else some a
def worstOf (p : Pl) (ws : List (List Int)) (ru : Ru) : Most := ws.foldl (fun m W => stepM (lenW p W ru) m W) none
def wD : Most → D
  | none => .non
  | some a => .tup [.int a.1, kD a.2]
def ablesOf (p : Pl) (ws : List (List Int)) (rus : List Ru) : List (Int × Ru) := rus.filterMap fun ru => (worstOf p ws ru).map fun a => (a.1, ru)
def bestOf (p : Pl) (ws : List (List Int)) : List Ru := ((ablesOf p ws [.near, .few, .known]).filter fun a => decide (a.1 = minI ((ablesOf p ws [.near, .few, .known]).map (·.1)))).map (·.2)
def Is (r : RV) (d : D) : Prop := r = .fro d ∨ r = .own d
section
variable {p : Pl}
theorem eqv_rus (l : List Ru) : D.eqv (.lst (l.map fun r => .str (ruS r))) (.lst (l.map fun r => .str (ruS r))) = some true := by
  obtain ⟨ps, h1, h2, h3⟩ := gd_all (n := 0) (xs := l.map fun r => .str (ruS r)) (fun x hx => by
    obtain ⟨r, _, rfl⟩ := List.mem_map.mp hx
    cases r <;> exact ⟨_, rfl, by decide +kernel, Nat.le_refl 0⟩)
  have hpy : D.py (.lst (l.map fun r => .str (ruS r))) = some (.list ps) := by rw [D.py, h1]; rfl
  have hc : PyData.canLay0 (.list ps) = true := by rw [PyData.canLay0]; exact h2
  have hs : SeqAt.shaped (.list ps) = true := by
    unfold SeqAt.shaped
    rw [hc, decide_eq_true (show PyData.depth (.list ps) ≤ 64 by rw [PyData.depth]; omega)]; rfl
  unfold D.eqv
  rw [hpy]
  simp only [hs, Bool.and_self, if_true]
  rw [SeqAt.eqv_refl _ hc]
def envA (sc pl : D) (s : Str) (c3 c4 : Cell) (le ab : List D) (m : Most) (c8 c9 c10 c11 : Cell) : Env := [.fro sc, .fro pl, .fro (.str s), c3, c4, .own (.lst le), .own (.lst ab), .fro (wD m), c8, c9, c10, c11, .un]
def bodyV (LW WK WL : Fm) : SF := sCons (sAsg (gT 2 (gsCons (gN 10) (gsCons (gN 11) (gsNil)))) (eCall LW (aCons (eVar 1) (aCons (eVar 8) (aCons (eVar 2) (aNil)))))) (sCons (sSet 9 (eIf (bB (e2 oEq (eUse 11) (e2 oIx (e2 oIx (eUse 1) (eC (.int 2))) (eC (.int 1))))) (eCB (c1 oSum) (aCons (eLc (gN 12) [12] (iData (eVar 10)) (bYes) (e2 oIx (e2 oIx (e2 oIx (eUse 1) (eC (.int 1))) (eUse 12)) (eC (.int 2)))) (aNil))) (eC .non))) (sCons (sIf (bOr (bB (e2 oNe (eCall WK (aCons (eVar 3) (aCons (eVar 8) (aCons (eVar 2) (aNil))))) (eUse 10))) (bB (e2 oNe (eCall WL (aCons (eVar 3) (aCons (eVar 8) (aCons (eVar 2) (aNil))))) (eUse 9)))) (sRet (eC (.bl false))) (sNil)) (sIf (bAnd (bB (e2 oNotN (eUse 9) (eC .non))) (bOr (bB (e2 oIsN (eUse 7) (eC .non))) (bB (e2 oGt (eUse 9) (e2 oIx (eUse 7) (eC (.int 0))))))) (sSet 7 (eTup (aCons (eVar 9) (aCons (eVar 8) (aNil))))) (sNil))))
def bodyU (LW WK WL WO : Fm) : SF := sCons (sSet 7 (eC .non)) (sCons (sFor (gN 8) (iData (eVar 4)) (bodyV LW WK WL)) (sCons (sIf (bB (e2 oNe (eCall WO (aCons (eVar 3) (aCons (eVar 2) (aNil)))) (eUse 7))) (sRet (eC (.bl false))) (sNil)) (sCons (sSet 5 (e2 oCat (eUse 5) (eIf (bB (e2 oNotN (eUse 7) (eC .non))) (eLst (aCons (e2 oIx (eUse 7) (eC (.int 0))) (aNil))) (eLst (aNil))))) (sSet 6 (e2 oCat (eUse 6) (eIf (bB (e2 oNotN (eUse 7) (eC .non))) (eLst (aCons (eTup (aCons (e2 oIx (eUse 7) (eC (.int 0))) (aCons (eVar 2) (aNil)))) (aNil))) (eLst (aNil))))))))
def allB (PL MI SM LW WK WL WO BR NU : Fm) : SF := sCons (sSet 1 (eCall PL (aCons (eVar 0) (aCons (eC (.int 10)) (aCons (e2 oIx (eTup (aCons (eC (.int 3)) (aCons (eC (.int 5)) (aCons (eC (.int 8)) (aNil))))) (e2 oMod (eCB (c1 oIntOf) (aCons (eCall NU (aCons (eVar 0) (aCons (eC (.int 2)) (aNil)))) (aNil))) (eC (.int 3)))) (aNil)))))) (sCons (sPar 3 4 (eMake 0 MI (aCons (e2 oIx (eUse 1) (eC (.int 0))) (aCons (e2 oIx (eUse 1) (eC (.int 1))) (aCons (e2 oIx (eUse 1) (eC (.int 2))) (aCons (e2 oIx (eUse 1) (eC (.int 3))) (aNil)))))) (eCall SM (aCons (e1 oLRange (eCB (c1 oLen) (aCons (e2 oIx (eUse 1) (eC (.int 1))) (aNil)))) (aCons (e2 oIx (eUse 1) (eC (.int 3))) (aNil))))) (sCons (sIf (bB (e2 oNe (eC (.tup ((["near", "few", "known"] : List Str).map D.str))) (eTup (aCons (eC (.str "near")) (aCons (eC (.str "few")) (aCons (eC (.str "known")) (aNil))))))) (sRet (eC (.bl false))) (sNil)) (sCons (sParL [5, 6] (aoCons (eLst (aNil)) (aoCons (eLst (aNil)) (aoNil)))) (sCons (sFor (gN 2) (iData (eC (.tup ((["near", "few", "known"] : List Str).map D.str)))) (bodyU LW WK WL WO)) (sRet (e2 oEq (eCall BR (aCons (eVar 3) (aNil))) (eLc (gT 2 (gsCons (gN 9) (gsCons (gN 2) (gsNil)))) [9, 2] (iData (eVar 6)) (bB (e2 oEq (eUse 9) (eCB (c1 oMinAny) (aCons (eUse 5) (aNil))))) (eVar 2))))))))
theorem all_is : F__law_all_right = runF 1 12 (allB F__law_plan F_Map___init__ F__law_some F__law_walk F_walk F_walked F_worst F_best_rules F__law_number) := rfl
theorem names_is : (["near", "few", "known"] : List Str).map D.str = [Ru.near, .few, .known].map fun r => D.str (ruS r) := rfl
theorem sum_ix {sc : D} {s : Str} {c3 c4 c8 c9 c11 : Cell} {le ab : List D} {m : Most} {fo : List Int} (hf : ∀ r ∈ fo, 0 ≤ r ∧ r < p.rs.length) (hl : fo.length ≤ 4000) :
    lcL (gN 12) [12] bYes (e2 oIx (e2 oIx (e2 oIx (eUse 1) (eC (.int 1))) (eUse 12)) (eC (.int 2))) (fo.map D.int) (envA sc p.pl s c3 c4 le ab m c8 c9 (.fro (.lst (Li fo))) c11) [] = .ok ((fo.map (lenR p.rs)).map D.int, envA sc p.pl s c3 c4 le ab m c8 c9 (.fro (.lst (Li fo))) c11) := by
  have s4 : fo.length ≤ sizeLine := Nat.le_trans hl (by decide)
  rw [lcL_map (fun _ => true) (fun d => match d with | .int r => .int (lenR p.rs r) | _ => .non) (fun d hd => ?_) (by simpa using s4)]
  · rw [List.nil_append, List.filter_eq_self.mpr fun _ _ => rfl, List.map_map, List.map_map]
    rfl
  · obtain ⟨r, hr, rfl⟩ := List.mem_map.mp hd
    obtain ⟨h0, h1⟩ := hf r hr
    refine ⟨_, _, rfl, rfl, (fun h => nomatch h), fun _ => ⟨.fro (.int (lenR p.rs r)), envA sc p.pl s c3 c4 le ab m c8 c9 (.fro (.lst (Li fo))) c11 |>.set 12 (.fro (.int r)), ?_, rfl, rfl⟩⟩
    have hlt : r.toNat < p.rs.length := by omega
    have q1 : oIx p.pl (.int 1) = .ok (.fro (.tup (p.rs.map rd))) := rfl
    have q2 : oIx (.tup (p.rs.map rd)) (.int r) = .ok (.fro (rd p.rs[r.toNat])) := by
      show (Res.of (L2.atI (p.rs.map rd) r)).bind _ = _
      have e : L2.atI (p.rs.map rd) r = some (rd p.rs[r.toNat]) := by
        unfold L2.atI
        rw [List.length_map, ixN_at h0 h1]
        simp [hlt]
      rw [e]; rfl
    have q3 : oIx (rd p.rs[r.toNat]) (.int 2) = .ok (.fro (.int p.rs[r.toNat].2.2)) := rfl
    have q4 : lenR p.rs r = p.rs[r.toNat].2.2 := by
      unfold lenR
      rw [List.getElem?_eq_getElem hlt]
    rw [q4]
    generalize p.rs[r.toNat] = q at *
    simp [envA, q1, q2, q3]
theorem gd_kD (k : List Int) : Gd 1 (kD k) := .tup fun d hd => by
  obtain ⟨i, _, rfl⟩ := List.mem_map.mp hd
  exact .int i
theorem gd_Li (k : List Int) : Gd 1 (.lst (Li k)) := .lst fun d hd => by
  obtain ⟨i, _, rfl⟩ := List.mem_map.mp hd
  exact .int i
theorem gd_oD (o : Option Int) : Gd 1 (oD o) := by
  cases o with
  | none => exact .non
  | some v => exact .int v
theorem gd_wD (m : Most) : Gd 2 (wD m) := by
  cases m with
  | none => exact .non
  | some a =>
    refine .tup fun d hd => ?_
    simp at hd
    rcases hd with rfl | rfl
    · exact .int _
    · exact gd_kD _
def vLen : SF := sSet 9 (eIf (bB (e2 oEq (eUse 11) (e2 oIx (e2 oIx (eUse 1) (eC (.int 2))) (eC (.int 1))))) (eCB (c1 oSum) (aCons (eLc (gN 12) [12] (iData (eVar 10)) (bYes) (e2 oIx (e2 oIx (e2 oIx (eUse 1) (eC (.int 1))) (eUse 12)) (eC (.int 2)))) (aNil))) (eC .non))
theorem vLen_ok {sc : D} {s : Str} {c3 c4 c8 c9 : Cell} {le ab : List D} {m : Most} {fo : List Int} {y : Int} (hf : ∀ r ∈ fo, 0 ≤ r ∧ r < p.rs.length) (hl : fo.length ≤ 4000) :
    vLen (envA sc p.pl s c3 c4 le ab m c8 c9 (.fro (.lst (Li fo))) (.fro (.int y))) = .ok (.nx, envA sc p.pl s c3 c4 le ab m c8 (.fro (oD (if y = p.g then some ((fo.map (lenR p.rs)).sum) else none))) (.fro (.lst (Li fo))) (.fro (.int y))) := by
  have q2 : oIx p.pl (.int 2) = .ok (.fro (.tup [.int p.b, .int p.g])) := rfl
  have q3 : oIx (.tup [.int p.b, .int p.g]) (.int 1) = .ok (.fro (.int p.g)) := rfl
  have e := sum_ix (sc := sc) (s := s) (c3 := c3) (c4 := c4) (c8 := c8) (c9 := c9) (c11 := .fro (.int y)) (le := le) (ab := ab) (m := m) hf hl
  have hsum := sum_L (fo.map (lenR p.rs))
  generalize p.pl = pl at *
  by_cases h : y = p.g
  · rw [if_pos h]
    subst h
    simp only [Li, List.map_map] at *
    simp only [envA] at *
    simp [vLen, q2, q3, e, hsum, oD]
  · rw [if_neg h]
    simp [vLen, envA, q2, q3, h, oD]
def vSame (WK WL : Fm) : SF := sIf (bOr (bB (e2 oNe (eCall WK (aCons (eVar 3) (aCons (eVar 8) (aCons (eVar 2) (aNil))))) (eUse 10))) (bB (e2 oNe (eCall WL (aCons (eVar 3) (aCons (eVar 8) (aCons (eVar 2) (aNil))))) (eUse 9)))) (sRet (eC (.bl false))) (sNil)
theorem vSame_ok {WK WL : Fm} {sc pl : D} {s : Str} {c3 c4 c11 : Cell} {ds : List D} {le ab : List D} {m : Most} {W fo : List Int} {z : Option Int} {rv : RV} (h3 : c3 = .own (.obj 0 ds) ∨ c3 = .fro (.obj 0 ds))
    (hWK : WK [.fro (.obj 0 ds), .fro (kD W), .fro (.str s)] = .ok (rv, [.un, .un, .un])) (hrv : Is rv (.lst (Li fo)))
    (hWL : WL [.fro (.obj 0 ds), .fro (kD W), .fro (.str s)] = .ok (.fro (oD z), [.un, .un, .un])) :
    vSame WK WL (envA sc pl s c3 c4 le ab m (.fro (kD W)) (.fro (oD z)) (.fro (.lst (Li fo))) c11) = .ok (.nx, envA sc pl s (.fro (.obj 0 ds)) c4 le ab m (.fro (kD W)) (.fro (oD z)) (.fro (.lst (Li fo))) c11) := by
  have n1 := oNe_self (gd_Li fo)
  have n2 := oNe_self (gd_oD z)
  generalize oD z = oz at *
  generalize Li fo = L at *
  generalize kD W = w at *
  generalize hch : D.obj 0 ds = ch at *
  rcases h3 with rfl | rfl <;> rcases hrv with rfl | rfl <;> simp [vSame, envA, hWK, hWL, n1, n2]
def vMost : SF := sIf (bAnd (bB (e2 oNotN (eUse 9) (eC .non))) (bOr (bB (e2 oIsN (eUse 7) (eC .non))) (bB (e2 oGt (eUse 9) (e2 oIx (eUse 7) (eC (.int 0))))))) (sSet 7 (eTup (aCons (eVar 9) (aCons (eVar 8) (aNil))))) (sNil)
theorem vMost_ok {sc pl : D} {s : Str} {c3 c4 c10 c11 : Cell} {le ab : List D} {m : Most} {W : List Int} {z : Option Int} : vMost (envA sc pl s c3 c4 le ab m (.fro (kD W)) (.fro (oD z)) c10 c11) = .ok (.nx, envA sc pl s c3 c4 le ab (stepM z m W) (.fro (kD W)) (.fro (oD z)) c10 c11) := by
  have s2 : 2 ≤ sizeLine := by decide
  cases z with
  | none => simp [vMost, envA, oD, D.isN, stepM]
  | some z =>
    cases m with
    | none => simp [vMost, envA, oD, D.isN, stepM, wD, s2]
    | some a =>
      have q : oIx (wD (some a)) (.int 0) = .ok (.fro (.int a.1)) := rfl
      have hn : (wD (some a)).isN = false := rfl
      by_cases h : a.1 < z
      · have e : stepM (some z) (some a) W = some (z, W) := by unfold stepM; exact if_pos h
        rw [e]
        have w : wD (some (z, W)) = .tup [.int z, kD W] := rfl
        have hi : (D.int z).isN = false := rfl
        simp [vMost, envA, oD, hn, hi, q, h, s2, w]
      · have e : stepM (some z) (some a) W = some a := by unfold stepM; exact if_neg h
        rw [e]
        have hi : (D.int z).isN = false := rfl
        simp [vMost, envA, oD, hn, hi, q, h, s2]
theorem bodyV_is (LW WK WL : Fm) : bodyV LW WK WL = sCons (sAsg (gT 2 (gsCons (gN 10) (gsCons (gN 11) (gsNil)))) (eCall LW (aCons (eVar 1) (aCons (eVar 8) (aCons (eVar 2) (aNil)))))) (sCons vLen (sCons (vSame WK WL) vMost)) := rfl
/-- what stands of one world, of one rule -/
structure Wk (p : Pl) (LW WK WL : Fm) (ds : List D) (s : Str) (W fo : List Int) (y : Int) (rv : RV) (z : Option Int) : Prop where
  lw : LW [.fro p.pl, .fro (kD W), .fro (.str s)] = .ok (.fro (.tup [.lst (Li fo), .int y]), [.un, .un, .un])
  wk : WK [.fro (.obj 0 ds), .fro (kD W), .fro (.str s)] = .ok (rv, [.un, .un, .un])
  is : Is rv (.lst (Li fo))
  wl : WL [.fro (.obj 0 ds), .fro (kD W), .fro (.str s)] = .ok (.fro (oD z), [.un, .un, .un])
  z_ : z = if y = p.g then some ((fo.map (lenR p.rs)).sum) else none
  rg : ∀ r ∈ fo, 0 ≤ r ∧ r < p.rs.length
  le : fo.length ≤ 4000
theorem bodyV_ok {LW WK WL : Fm} {sc : D} {s : Str} {c3 c4 c9 c10 c11 : Cell} {ds : List D} {le ab : List D} {m : Most} {W fo : List Int} {y : Int} {z : Option Int} {rv : RV} (h3 : c3 = .own (.obj 0 ds) ∨ c3 = .fro (.obj 0 ds)) (h : Wk p LW WK WL ds s W fo y rv z) :
    bodyV LW WK WL (envA sc p.pl s c3 c4 le ab m (.fro (kD W)) c9 c10 c11) = .ok (.nx, envA sc p.pl s (.fro (.obj 0 ds)) c4 le ab (stepM z m W) (.fro (kD W)) (.fro (oD z)) (.fro (.lst (Li fo))) (.fro (.int y))) := by
  have r1 : sAsg (gT 2 (gsCons (gN 10) (gsCons (gN 11) (gsNil)))) (eCall LW (aCons (eVar 1) (aCons (eVar 8) (aCons (eVar 2) (aNil))))) (envA sc p.pl s c3 c4 le ab m (.fro (kD W)) c9 c10 c11) = .ok (.nx, envA sc p.pl s c3 c4 le ab m (.fro (kD W)) c9 (.fro (.lst (Li fo))) (.fro (.int y))) := by
    have e := h.lw
    generalize p.pl = pl at *
    generalize Li fo = L at *
    simp [envA, e]
  have r2 := vLen_ok (sc := sc) (s := s) (c3 := c3) (c4 := c4) (c8 := .fro (kD W)) (c9 := c9) (le := le) (ab := ab) (m := m) (y := y) h.rg h.le
  rw [← h.z_] at r2
  have r3 := vSame_ok (sc := sc) (pl := p.pl) (c4 := c4) (c11 := .fro (.int y)) (le := le) (ab := ab) (m := m) h3 h.wk h.is h.wl
  rw [bodyV_is, z_sCons, r1, Res.bind_ok]
  show sCons _ _ _ = _
  rw [z_sCons, r2, Res.bind_ok]
  show sCons _ _ _ = _
  rw [z_sCons, r3, Res.bind_ok]
  exact vMost_ok
theorem loopVw {LW WK WL : Fm} {sc : D} {s : Str} {ds le ab : List D} {c4 : Cell} {f : List Int → Option Int} : ∀ (ws : List (List Int)) (c3 : Cell) (m : Most) (c8 c9 c10 c11 : Cell), c3 = .own (.obj 0 ds) ∨ c3 = .fro (.obj 0 ds) → (∀ W ∈ ws, ∃ fo y rv, Wk p LW WK WL ds s W fo y rv (f W)) →
    ∃ d3 d8 d9 d10 d11, forL (gN 8) (bodyV LW WK WL) (ws.map kD) (envA sc p.pl s c3 c4 le ab m c8 c9 c10 c11) = .ok (.nx, envA sc p.pl s d3 c4 le ab (ws.foldl (fun m W => stepM (f W) m W) m) d8 d9 d10 d11) ∧ (d3 = .own (.obj 0 ds) ∨ d3 = .fro (.obj 0 ds))
  | [], c3, m, c8, c9, c10, c11, h3, _ => ⟨c3, c8, c9, c10, c11, rfl, h3⟩
  | W :: ws, c3, m, c8, c9, c10, c11, h3, hw => by
    obtain ⟨fo, y, rv, h⟩ := hw W (List.mem_cons_self ..)
    obtain ⟨d3, d8, d9, d10, d11, e, g⟩ := loopVw (sc := sc) (le := le) (ab := ab) (c4 := c4) (f := f) ws (.fro (.obj 0 ds)) (stepM (f W) m W) (.fro (kD W)) (.fro (oD (f W))) (.fro (.lst (Li fo))) (.fro (.int y)) (.inr rfl) fun W' hW' => hw W' (List.mem_cons_of_mem _ hW')
    refine ⟨d3, d8, d9, d10, d11, ?_, g⟩
    rw [List.map_cons, forL, show gN 8 (kD W) (envA sc p.pl s c3 c4 le ab m c8 c9 c10 c11) = .ok (envA sc p.pl s c3 c4 le ab m (.fro (kD W)) c9 c10 c11) from rfl, Res.bind_ok, bodyV_ok h3 h, Res.bind_ok]
    exact e
end
end Dt
end

section
set_option Elab.async false
set_option linter.all false
set_option maxRecDepth 100000
set_option maxHeartbeats 4000000
set_option autoImplicit false
namespace Dt
open PySem PySem.Spec PyProof.Rows L2
section
variable {p : Pl}
def uWorst (WO : Fm) : SF := sIf (bB (e2 oNe (eCall WO (aCons (eVar 3) (aCons (eVar 2) (aNil)))) (eUse 7))) (sRet (eC (.bl false))) (sNil)
def uLe : SF := sSet 5 (e2 oCat (eUse 5) (eIf (bB (e2 oNotN (eUse 7) (eC .non))) (eLst (aCons (e2 oIx (eUse 7) (eC (.int 0))) (aNil))) (eLst (aNil))))
def uAb : SF := sSet 6 (e2 oCat (eUse 6) (eIf (bB (e2 oNotN (eUse 7) (eC .non))) (eLst (aCons (eTup (aCons (e2 oIx (eUse 7) (eC (.int 0))) (aCons (eVar 2) (aNil)))) (aNil))) (eLst (aNil))))
theorem bodyU_is (LW WK WL WO : Fm) : bodyU LW WK WL WO = sCons (sSet 7 (eC .non)) (sCons (sFor (gN 8) (iData (eVar 4)) (bodyV LW WK WL)) (sCons (uWorst WO) (sCons uLe uAb))) := rfl
def leOf (m : Most) : List D := match m with
  | none => []
  | some a => [.int a.1]
def abOf (m : Most) (s : Str) : List D := match m with
  | none => []
  | some a => [.tup [.int a.1, .str s]]
theorem cat_L {a b : List D} (h : a.length + b.length ≤ sizeLine) : oCat (.lst a) (.lst b) = .ok (.own (.lst (a ++ b))) := by
  have : (a ++ b).length ≤ sizeLine := by rw [List.length_append]; exact h
  show (if _ then _ else _) = _
  first | rw [if_pos this] | rw [if_pos h]
theorem uWorst_ok {WO : Fm} {sc pl : D} {s : Str} {c3 c4 c8 c9 c10 c11 : Cell} {ds : List D} {le ab : List D} {m : Most} {rv : RV} (h3 : c3 = .own (.obj 0 ds) ∨ c3 = .fro (.obj 0 ds)) (hWO : WO [.fro (.obj 0 ds), .fro (.str s)] = .ok (rv, [.un, .un])) (hrv : Is rv (wD m)) :
    uWorst WO (envA sc pl s c3 c4 le ab m c8 c9 c10 c11) = .ok (.nx, envA sc pl s (.fro (.obj 0 ds)) c4 le ab m c8 c9 c10 c11) := by
  have n1 := oNe_self (gd_wD m)
  unfold envA
  generalize wD m = M at *
  generalize hch : D.obj 0 ds = ch at *
  rcases h3 with rfl | rfl <;> rcases hrv with rfl | rfl <;> simp [uWorst, hWO, n1]
theorem uLe_ok {sc pl : D} {s : Str} {c3 c4 c8 c9 c10 c11 : Cell} {le ab : List D} {m : Most} (hl : le.length ≤ 100) : uLe (envA sc pl s c3 c4 le ab m c8 c9 c10 c11) = .ok (.nx, envA sc pl s c3 c4 (le ++ leOf m) ab m c8 c9 c10 c11) := by
  have s0 : 0 ≤ sizeLine := Nat.zero_le _
  have s1 : 1 ≤ sizeLine := by decide
  cases m with
  | none =>
    have e := cat_L (a := le) (b := []) (Nat.le_trans (show le.length + 0 ≤ 1000 by omega) (by decide))
    have hi : (D.non).isN = true := rfl
    simp [uLe, envA, wD, leOf, hi, s0, e]
  | some a =>
    have e := cat_L (a := le) (b := [.int a.1]) (Nat.le_trans (show le.length + 1 ≤ 1000 by omega) (by decide))
    have q : oIx (wD (some a)) (.int 0) = .ok (.fro (.int a.1)) := rfl
    have hn : (wD (some a)).isN = false := rfl
    simp [uLe, envA, leOf, hn, q, s1, e]
theorem uAb_ok {sc pl : D} {s : Str} {c3 c4 c8 c9 c10 c11 : Cell} {le ab : List D} {m : Most} (hl : ab.length ≤ 100) : uAb (envA sc pl s c3 c4 le ab m c8 c9 c10 c11) = .ok (.nx, envA sc pl s c3 c4 le (ab ++ abOf m s) m c8 c9 c10 c11) := by
  have s0 : 0 ≤ sizeLine := Nat.zero_le _
  have s1 : 1 ≤ sizeLine := by decide
  have s2 : 2 ≤ sizeLine := by decide
  cases m with
  | none =>
    have e := cat_L (a := ab) (b := []) (Nat.le_trans (show ab.length + 0 ≤ 1000 by omega) (by decide))
    have hi : (D.non).isN = true := rfl
    simp [uAb, envA, wD, abOf, hi, s0, e]
  | some a =>
    have e := cat_L (a := ab) (b := [.tup [.int a.1, .str s]]) (Nat.le_trans (show ab.length + 1 ≤ 1000 by omega) (by decide))
    have q : oIx (wD (some a)) (.int 0) = .ok (.fro (.int a.1)) := rfl
    have hn : (wD (some a)).isN = false := rfl
    simp [uAb, envA, abOf, hn, q, s1, s2, e]
theorem foldl_le (m : Most) : (leOf m).length ≤ 1 := by cases m <;> simp [leOf]
theorem fold_ab (m : Most) (s : Str) : (abOf m s).length ≤ 1 := by cases m <;> simp [abOf]
def envB (sc pl : D) (c2 c3 c4 : Cell) (le ab : List D) (c7 c8 c9 c10 c11 : Cell) : Env := [.fro sc, .fro pl, c2, c3, c4, .own (.lst le), .own (.lst ab), c7, c8, c9, c10, c11, .un]
/-- what stands of one rule -/
structure Rl (p : Pl) (LW WK WL WO : Fm) (ds : List D) (ws : List (List Int)) (ru : Ru) : Prop where
  w : ∀ W ∈ ws, ∃ fo y rv, Wk p LW WK WL ds (ruS ru) W fo y rv (lenW p W ru)
  o : ∃ rv, WO [.fro (.obj 0 ds), .fro (.str (ruS ru))] = .ok (rv, [.un, .un]) ∧ Is rv (wD (worstOf p ws ru))
/-- one rule -/
theorem bodyU_ok {LW WK WL WO : Fm} {sc : D} {ru : Ru} {c3 c4 c7 c8 c9 c10 c11 : Cell} {ds : List D} {le ab : List D} {ws : List (List Int)} (h3 : c3 = .own (.obj 0 ds) ∨ c3 = .fro (.obj 0 ds)) (h4 : c4 = .own (.lst (ws.map kD)) ∨ c4 = .fro (.lst (ws.map kD)))
    (h : Rl p LW WK WL WO ds ws ru) (hl : le.length ≤ 100) (hab : ab.length ≤ 100) :
    ∃ d7 d8 d9 d10 d11, bodyU LW WK WL WO (envB sc p.pl (.fro (.str (ruS ru))) c3 c4 le ab c7 c8 c9 c10 c11) = .ok (.nx, envB sc p.pl (.fro (.str (ruS ru))) (.fro (.obj 0 ds)) (.fro (.lst (ws.map kD))) (le ++ leOf (worstOf p ws ru)) (ab ++ abOf (worstOf p ws ru) (ruS ru)) d7 d8 d9 d10 d11) := by
  obtain ⟨rv, hWO, hrv⟩ := h.o
  obtain ⟨d3, d8, d9, d10, d11, e, g⟩ := loopVw (p := p) (sc := sc) (le := le) (ab := ab) (c4 := .fro (.lst (ws.map kD))) (f := fun W => lenW p W ru) ws c3 none c8 c9 c10 c11 h3 h.w
  change forL (gN 8) (bodyV LW WK WL) (ws.map kD) (envA sc p.pl (ruS ru) c3 (.fro (.lst (ws.map kD))) le ab none c8 c9 c10 c11) = .ok (.nx, envA sc p.pl (ruS ru) d3 (.fro (.lst (ws.map kD))) le ab (worstOf p ws ru) d8 d9 d10 d11) at e
  refine ⟨.fro (wD (worstOf p ws ru)), d8, d9, d10, d11, ?_⟩
  generalize worstOf p ws ru = m at *
  have e1 : sSet 7 (eC .non) (envB sc p.pl (.fro (.str (ruS ru))) c3 c4 le ab c7 c8 c9 c10 c11) = .ok (.nx, envA sc p.pl (ruS ru) c3 c4 le ab none c8 c9 c10 c11) := by
    unfold envA envB
    generalize p.pl = pl
    generalize ruS ru = s
    simp [wD]
  have e2 : iData (eVar 4) (envA sc p.pl (ruS ru) c3 c4 le ab none c8 c9 c10 c11) = .ok (ws.map kD, envA sc p.pl (ruS ru) c3 (.fro (.lst (ws.map kD))) le ab none c8 c9 c10 c11) := by
    unfold envA
    generalize wD none = M
    generalize ws.map kD = L at *
    rcases h4 with rfl | rfl <;> simp
  rw [bodyU_is, z_sCons, e1, Res.bind_ok]
  show sCons _ _ _ = _
  rw [z_sCons, z_sFor, e2, Res.bind_ok]
  show Res.bind (forL (gN 8) (bodyV LW WK WL) (ws.map kD) (envA sc p.pl (ruS ru) c3 (.fro (.lst (ws.map kD))) le ab none c8 c9 c10 c11)) _ = _
  rw [e, Res.bind_ok]
  show sCons _ _ _ = _
  rw [z_sCons, uWorst_ok g hWO hrv, Res.bind_ok]
  show sCons _ _ _ = _
  rw [z_sCons, uLe_ok hl, Res.bind_ok]
  exact uAb_ok hab
def abD (a : Int × Ru) : D := .tup [.int a.1, .str (ruS a.2)]
theorem ables_cons (ws : List (List Int)) (ru : Ru) (l : List Ru) : leOf (worstOf p ws ru) ++ (ablesOf p ws l).map (fun a => D.int a.1) = (ablesOf p ws (ru :: l)).map (fun a => D.int a.1) ∧ abOf (worstOf p ws ru) (ruS ru) ++ (ablesOf p ws l).map abD = (ablesOf p ws (ru :: l)).map abD := by
  unfold ablesOf
  rw [List.filterMap_cons]
  cases worstOf p ws ru <;> exact ⟨rfl, rfl⟩
theorem loopU {LW WK WL WO : Fm} {sc : D} {ds : List D} {ws : List (List Int)} : ∀ (l : List Ru) (c2 c3 c4 c7 c8 c9 c10 c11 : Cell) (le ab : List D), c3 = .own (.obj 0 ds) ∨ c3 = .fro (.obj 0 ds) → c4 = .own (.lst (ws.map kD)) ∨ c4 = .fro (.lst (ws.map kD)) → (∀ ru ∈ l, Rl p LW WK WL WO ds ws ru) → le.length + l.length ≤ 100 → ab.length + l.length ≤ 100 →
    ∃ d2 d3 d4 d7 d8 d9 d10 d11, forL (gN 2) (bodyU LW WK WL WO) (l.map fun r => .str (ruS r)) (envB sc p.pl c2 c3 c4 le ab c7 c8 c9 c10 c11) = .ok (.nx, envB sc p.pl d2 d3 d4 (le ++ (ablesOf p ws l).map fun a => .int a.1) (ab ++ (ablesOf p ws l).map abD) d7 d8 d9 d10 d11) ∧ (d3 = .own (.obj 0 ds) ∨ d3 = .fro (.obj 0 ds))
  | [], c2, c3, c4, c7, c8, c9, c10, c11, le, ab, h3, h4, _, _, _ => ⟨c2, c3, c4, c7, c8, c9, c10, c11, by show Res.ok _ = _; rw [show ablesOf p ws [] = [] from rfl, List.map_nil, List.map_nil, List.append_nil, List.append_nil], h3⟩
  | ru :: l, c2, c3, c4, c7, c8, c9, c10, c11, le, ab, h3, h4, hr, hl, hab => by
    rw [List.length_cons] at hl hab
    obtain ⟨d7, d8, d9, d10, d11, e⟩ := bodyU_ok (sc := sc) (c7 := c7) (c8 := c8) (c9 := c9) (c10 := c10) (c11 := c11) (le := le) (ab := ab) h3 h4 (hr ru (List.mem_cons_self ..)) (by omega) (by omega)
    have g1 := foldl_le (worstOf p ws ru)
    have g2 := fold_ab (worstOf p ws ru) (ruS ru)
    obtain ⟨x2, x3, x4, x7, x8, x9, x10, x11, e2, g⟩ := loopU (sc := sc) l (.fro (.str (ruS ru))) (.fro (.obj 0 ds)) (.fro (.lst (ws.map kD))) d7 d8 d9 d10 d11 (le ++ leOf (worstOf p ws ru)) (ab ++ abOf (worstOf p ws ru) (ruS ru)) (.inr rfl) (.inr rfl) (fun r hr' => hr r (List.mem_cons_of_mem _ hr')) (by rw [List.length_append]; omega) (by rw [List.length_append]; omega)
    refine ⟨x2, x3, x4, x7, x8, x9, x10, x11, ?_, g⟩
    obtain ⟨k1, k2⟩ := ables_cons (p := p) ws ru l
    rw [List.append_assoc, List.append_assoc, k1, k2] at e2
    rw [List.map_cons, forL, show gN 2 (.str (ruS ru)) (envB sc p.pl c2 c3 c4 le ab c7 c8 c9 c10 c11) = .ok (envB sc p.pl (.fro (.str (ruS ru))) c3 c4 le ab c7 c8 c9 c10 c11) from rfl, Res.bind_ok, e, Res.bind_ok]
    exact e2
end
end Dt
end

section
set_option Elab.async false
set_option linter.all false
set_option maxRecDepth 100000
set_option maxHeartbeats 4000000
set_option autoImplicit false
namespace Dt
open PySem PySem.Spec PyProof.Rows L2
section
variable {p : Pl}
def yPlan (PL NU : Fm) : SF := sSet 1 (eCall PL (aCons (eVar 0) (aCons (eC (.int 10)) (aCons (e2 oIx (eTup (aCons (eC (.int 3)) (aCons (eC (.int 5)) (aCons (eC (.int 8)) (aNil))))) (e2 oMod (eCB (c1 oIntOf) (aCons (eCall NU (aCons (eVar 0) (aCons (eC (.int 2)) (aNil)))) (aNil))) (eC (.int 3)))) (aNil)))))
def yMap (R : D → Res RV) (MI SM : Fm) : SF := sPar 3 4 (eMake 0 MI (aCons (e2 oIx (eUse 1) (eC (.int 0))) (aCons (e2 oIx (eUse 1) (eC (.int 1))) (aCons (e2 oIx (eUse 1) (eC (.int 2))) (aCons (e2 oIx (eUse 1) (eC (.int 3))) (aNil)))))) (eCall SM (aCons (e1 R (eCB (c1 oLen) (aCons (e2 oIx (eUse 1) (eC (.int 1))) (aNil)))) (aCons (e2 oIx (eUse 1) (eC (.int 3))) (aNil))))
def yNames : SF := sIf (bB (e2 oNe (eC (.tup ((["near", "few", "known"] : List Str).map D.str))) (eTup (aCons (eC (.str "near")) (aCons (eC (.str "few")) (aCons (eC (.str "known")) (aNil))))))) (sRet (eC (.bl false))) (sNil)
def yZero : SF := sParL [5, 6] (aoCons (eLst (aNil)) (aoCons (eLst (aNil)) (aoNil)))
def yLoop (LW WK WL WO : Fm) : SF := sFor (gN 2) (iData (eC (.tup ((["near", "few", "known"] : List Str).map D.str)))) (bodyU LW WK WL WO)
def yEnd (BR : Fm) : SF := sRet (e2 oEq (eCall BR (aCons (eVar 3) (aNil))) (eLc (gT 2 (gsCons (gN 9) (gsCons (gN 2) (gsNil)))) [9, 2] (iData (eVar 6)) (bB (e2 oEq (eUse 9) (eCB (c1 oMinAny) (aCons (eUse 5) (aNil))))) (eVar 2)))
theorem allB_is (PL MI SM LW WK WL WO BR NU : Fm) : allB PL MI SM LW WK WL WO BR NU = sCons (yPlan PL NU) (sCons (yMap oLRange MI SM) (sCons yNames (sCons yZero (sCons (yLoop LW WK WL WO) (yEnd BR))))) := rfl
theorem yPlan_ok {PL NU : Fm} {sc pl : D} {v mo : Int} (hNU : NU [.fro sc, .fro (.int 2)] = .ok (.fro (.int v), [.un, .un])) (hm : oIx (.tup [.int 3, .int 5, .int 8]) (.int (v % 3)) = .ok (.fro (.int mo))) (hPL : PL [.fro sc, .fro (.int 10), .fro (.int mo)] = .ok (.fro pl, [.un, .un, .un])) :
    yPlan PL NU [.fro sc, .un, .un, .un, .un, .un, .un, .un, .un, .un, .un, .un, .un] = .ok (.nx, [.fro sc, .fro pl, .un, .un, .un, .un, .un, .un, .un, .un, .un, .un, .un]) := by
  have s3 : 3 ≤ sizeLine := by decide
  simp [yPlan, hNU, hm, hPL, s3]
theorem yMap_ok {MI SM : Fm} {sc pl : D} {a c ws : D} {rds ds rl : List D} {m : Int} (R : D → Res RV) (p0 : oIx pl (.int 0) = .ok (.fro a)) (p1 : oIx pl (.int 1) = .ok (.fro (.tup rds))) (p2 : oIx pl (.int 2) = .ok (.fro c)) (p3 : oIx pl (.int 3) = .ok (.fro (.int m)))
    (hMI : MI [.brw (.obj 0 []), .fro a, .fro (.tup rds), .fro c, .fro (.int m)] = .ok (.fro .non, [.brw (.obj 0 ds), .un, .un, .un, .un])) (hR : R (.int rds.length) = .ok (.own (.lst rl))) (hSM : SM [.fro (.lst rl), .fro (.int m)] = .ok (.own ws, [.un, .un])) :
    yMap R MI SM [.fro sc, .fro pl, .un, .un, .un, .un, .un, .un, .un, .un, .un, .un, .un] = .ok (.nx, [.fro sc, .fro pl, .un, .own (.obj 0 ds), .own ws, .un, .un, .un, .un, .un, .un, .un, .un]) := by
  simp [yMap, eMake, p0, p1, p2, p3, hMI, hR, hSM]
theorem eqv_names (l : List Ru) : D.eqv (.tup (l.map fun r => .str (ruS r))) (.tup (l.map fun r => .str (ruS r))) = some true := by
  obtain ⟨ps, h1, h2, h3⟩ := gd_all (n := 0) (xs := l.map fun r => .str (ruS r)) (fun x hx => by
    obtain ⟨r, _, rfl⟩ := List.mem_map.mp hx
    cases r <;> exact ⟨_, rfl, by decide +kernel, Nat.le_refl 0⟩)
  have hpy : D.py (.tup (l.map fun r => .str (ruS r))) = some (.tuple ps) := by rw [D.py, h1]; rfl
  have hc : PyData.canLay0 (.tuple ps) = true := by rw [PyData.canLay0]; exact h2
  have hs : SeqAt.shaped (.tuple ps) = true := by
    unfold SeqAt.shaped
    rw [hc, decide_eq_true (show PyData.depth (.tuple ps) ≤ 64 by rw [PyData.depth]; omega)]; rfl
  unfold D.eqv
  rw [hpy]
  simp only [hs, Bool.and_self, if_true]
  rw [SeqAt.eqv_refl _ hc]
theorem ne_names : oNe (.tup [.str "near", .str "few", .str "known"]) (.tup [.str "near", .str "few", .str "known"]) = .ok (.fro (.bl false)) := by
  unfold oNe
  rw [show D.eqv (.tup [.str "near", .str "few", .str "known"]) (.tup [.str "near", .str "few", .str "known"]) = some true from eqv_names [.near, .few, .known]]; rfl
theorem yNames_ok (ρ : Env) : yNames ρ = .ok (.nx, ρ) := by
  have s3 : 3 ≤ sizeLine := by decide
  have e := ne_names
  simp [yNames, s3, e]
theorem yZero_ok {sc pl : D} {c2 c3 c4 : Cell} : yZero [.fro sc, .fro pl, c2, c3, c4, .un, .un, .un, .un, .un, .un, .un, .un] = .ok (.nx, envB sc pl c2 c3 c4 [] [] .un .un .un .un .un) := by
  have s0 : 0 ≤ sizeLine := Nat.zero_le _
  simp [yZero, sParL, aoCons, aoNil, s0, storeCs, setAll, envB]
theorem min_nums {l : List Int} (h : l ≠ []) : oMinAny (.lst (l.map D.int)) = .ok (.fro (.int (minI l))) := by
  unfold oMinAny D.nums
  dsimp only
  rw [show D.ints (l.map D.int) = some l from ints_L l]
  show (Res.need (decide (0 < l.length))).bind _ = _
  rw [decide_eq_true (List.length_pos_iff.mpr h)]; rfl
def rowY (mi : Int) : D → Bool
  | .tup [.int z, .str _] => decide (z = mi)
  | _ => false
def nameY : D → D
  | .tup [.int _, .str s] => .str s
  | _ => .non
theorem lcBest {sc pl : D} {c3 c4 c7 c8 c10 c11 : Cell} {la : List (Int × Ru)} (hl : la.length ≤ 100) :
    lcL (gT 2 (gsCons (gN 9) (gsCons (gN 2) (gsNil)))) [9, 2] (bB (e2 oEq (eUse 9) (eCB (c1 oMinAny) (aCons (eUse 5) (aNil))))) (eVar 2) (la.map abD) [.fro sc, .fro pl, .un, c3, c4, .own (.lst (la.map fun a => .int a.1)), .fro (.lst (la.map abD)), c7, c8, .un, c10, c11, .un] [] =
      .ok (((la.filter fun a => decide (a.1 = minI (la.map (·.1)))).map (·.2)).map fun r => .str (ruS r), [.fro sc, .fro pl, .un, c3, c4, .own (.lst (la.map fun a => .int a.1)), .fro (.lst (la.map abD)), c7, c8, .un, c10, c11, .un]) := by
  have hs : la.length ≤ sizeLine := Nat.le_trans hl (by decide)
  have hm : la.map (fun a => D.int a.1) = (la.map (·.1)).map D.int := by rw [List.map_map]; rfl
  rw [lcL_map (rowY (minI (la.map (·.1)))) nameY (fun d hd => ?_) (by simpa using hs)]
  · rw [List.nil_append, List.filter_map, List.map_map, List.map_map]
    rfl
  · obtain ⟨a, ha, rfl⟩ := List.mem_map.mp hd
    have hne : la.map (·.1) ≠ [] := by
      intro e
      rw [List.map_eq_nil_iff.mp e] at ha
      cases ha
    have q := min_nums hne
    rw [← hm] at q
    generalize minI (la.map (·.1)) = mi at *
    generalize (la.map fun a => D.int a.1) = L at *
    generalize la.map abD = A at *
    obtain ⟨z, ru⟩ := a
    show ∃ ρ1 ρ2, gT 2 (gsCons (gN 9) (gsCons (gN 2) (gsNil))) (.tup [.int z, .str (ruS ru)]) _ = .ok ρ1 ∧ _ ∧ (decide (z = mi) = false → _) ∧ (decide (z = mi) = true → _)
    refine ⟨[.fro sc, .fro pl, .fro (.str (ruS ru)), c3, c4, .own (.lst L), .fro (.lst A), c7, c8, .fro (.int z), c10, c11, .un], [.fro sc, .fro pl, .fro (.str (ruS ru)), c3, c4, .own (.lst L), .fro (.lst A), c7, c8, .fro (.int z), c10, c11, .un], ?_, ?_, fun _ => rfl, fun _ => ⟨.fro (.str (ruS ru)), _, rfl, rfl, rfl⟩⟩
    · simp
    · simp [q]
      rfl
theorem yEnd_ok {BR : Fm} {sc pl : D} {c2 c3 c4 c7 c8 c9 c10 c11 : Cell} {ds : List D} {la : List (Int × Ru)} {rv : RV} (hl : la.length ≤ 100) (h3 : c3 = .own (.obj 0 ds) ∨ c3 = .fro (.obj 0 ds)) (hBR : BR [.fro (.obj 0 ds)] = .ok (rv, [.un])) (hrv : Is rv (.lst (((la.filter fun a => decide (a.1 = minI (la.map (·.1)))).map (·.2)).map fun r => .str (ruS r)))) :
    ∃ ρ, yEnd BR (envB sc pl c2 c3 c4 (la.map fun a => .int a.1) (la.map abD) c7 c8 c9 c10 c11) = .ok (.ret (.fro (.bl true)), ρ) ∧ ρ.length = 13 ∧ (ρ.take 1).map outC = [.un] := by
  have e := lcBest (sc := sc) (pl := pl) (c3 := .fro (.obj 0 ds)) (c4 := c4) (c7 := c7) (c8 := c8) (c10 := c10) (c11 := c11) hl
  have n1 : oEq (.lst (((la.filter fun a => decide (a.1 = minI (la.map (·.1)))).map (·.2)).map fun r => .str (ruS r))) (.lst (((la.filter fun a => decide (a.1 = minI (la.map (·.1)))).map (·.2)).map fun r => .str (ruS r))) = .ok (.fro (.bl true)) := by
    unfold oEq
    rw [eqv_rus]; rfl
  generalize (((la.filter fun a => decide (a.1 = minI (la.map (·.1)))).map (·.2)).map fun r => D.str (ruS r)) = B at *
  generalize (la.map fun a => D.int a.1) = L at *
  generalize la.map abD = A at *
  generalize hch : D.obj 0 ds = ch at *
  refine ⟨[.fro sc, .fro pl, .un, .fro ch, c4, .own (.lst L), .fro (.lst A), c7, c8, .un, c10, c11, .un], ?_, rfl, rfl⟩
  rcases h3 with rfl | rfl <;> rcases hrv with rfl | rfl <;> simp [yEnd, envB, hBR, e, n1]
theorem all_ok {PL MI SM LW WK WL WO BR NU : Fm} {sc : D} {v mo : Int} {ds rl : List D} {ws : List (List Int)} {rv : RV}
    (hNU : NU [.fro sc, .fro (.int 2)] = .ok (.fro (.int v), [.un, .un])) (hm : oIx (.tup [.int 3, .int 5, .int 8]) (.int (v % 3)) = .ok (.fro (.int mo))) (hPL : PL [.fro sc, .fro (.int 10), .fro (.int mo)] = .ok (.fro p.pl, [.un, .un, .un]))
    (hMI : MI [.brw (.obj 0 []), .fro (.int p.P), .fro (.tup (p.rs.map rd)), .fro (.tup [.int p.b, .int p.g]), .fro (.int p.m)] = .ok (.fro .non, [.brw (.obj 0 ds), .un, .un, .un, .un])) (hR : oLRange (.int p.rs.length) = .ok (.own (.lst rl))) (hSM : SM [.fro (.lst rl), .fro (.int p.m)] = .ok (.own (.lst (ws.map kD)), [.un, .un]))
    (hRl : ∀ ru, Rl p LW WK WL WO ds ws ru) (hBR : BR [.fro (.obj 0 ds)] = .ok (rv, [.un])) (hrv : Is rv (.lst ((bestOf p ws).map fun r => .str (ruS r)))) :
    ∃ ρ, allB PL MI SM LW WK WL WO BR NU [.fro sc, .un, .un, .un, .un, .un, .un, .un, .un, .un, .un, .un, .un] = .ok (.ret (.fro (.bl true)), ρ) ∧ ρ.length = 13 ∧ (ρ.take 1).map outC = [.un] := by
  have e1 := yPlan_ok hNU hm hPL
  have e2 := yMap_ok (sc := sc) (pl := p.pl) (MI := MI) (SM := SM) oLRange rfl rfl rfl rfl hMI (by rw [List.length_map]; exact hR) hSM
  obtain ⟨d2, d3, d4, d7, d8, d9, d10, d11, e3, g⟩ := loopU (p := p) (LW := LW) (WK := WK) (WL := WL) (WO := WO) (sc := sc) (ds := ds) (ws := ws) [.near, .few, .known] .un (.own (.obj 0 ds)) (.own (.lst (ws.map kD))) .un .un .un .un .un [] [] (.inl rfl) (.inl rfl) (fun ru _ => hRl ru) (by decide) (by decide)
  rw [List.nil_append, List.nil_append] at e3
  have hla : (ablesOf p ws [.near, .few, .known]).length ≤ 100 := Nat.le_trans (List.length_filterMap_le _ _) (by decide)
  unfold bestOf at hrv
  generalize ablesOf p ws [.near, .few, .known] = la at *
  obtain ⟨ρ, e4, l13, t1⟩ := yEnd_ok (sc := sc) (pl := p.pl) (c2 := d2) (c4 := d4) (c7 := d7) (c8 := d8) (c9 := d9) (c10 := d10) (c11 := d11) hla g hBR hrv
  refine ⟨ρ, ?_, l13, t1⟩
  rw [allB_is, z_sCons, e1, Res.bind_ok]
  show sCons _ _ _ = _
  rw [z_sCons, e2, Res.bind_ok]
  show sCons _ _ _ = _
  rw [z_sCons, yNames_ok, Res.bind_ok]
  show sCons _ _ _ = _
  rw [z_sCons, yZero_ok, Res.bind_ok]
  show sCons _ _ _ = _
  rw [z_sCons]
  have e5 : yLoop LW WK WL WO (envB sc p.pl .un (.own (.obj 0 ds)) (.own (.lst (ws.map kD))) [] [] .un .un .un .un .un) = .ok (.nx, envB sc p.pl d2 d3 d4 (la.map fun a => .int a.1) (la.map abD) d7 d8 d9 d10 d11) := by
    rw [yLoop, z_sFor]
    exact e3
  rw [e5, Res.bind_ok]
  exact e4
end
end Dt
end

section
set_option Elab.async false
set_option linter.all false
set_option maxRecDepth 100000
set_option maxHeartbeats 4000000
set_option autoImplicit false
namespace Dt
open PySem PySem.Spec PyProof.Rows L2
abbrev wsP (p : Pl) : List (List Int) := everyN p.rs.length p.m
/-- what the law asks of the program -/
structure Prog (MI WK WL WO BR : Fm) : Prop where
  mi : ∀ p : Pl, p.Ok → MI [.brw (.obj 0 []), .fro (.int p.P), .fro (.tup (p.rs.map rd)), .fro (.tup [.int p.b, .int p.g]), .fro (.int p.m)] = .ok (.fro .non, [.brw p.ch, .un, .un, .un, .un])
  wk : ∀ p : Pl, p.Ok → p.P ≤ 4 → ∀ W ∈ wsP p, ∀ ru, ∃ rv, WK [.fro p.ch, .fro (kD W), .fro (.str (ruS ru))] = .ok (rv, [.un, .un, .un]) ∧ Is rv (.lst (Li (walkOf p W ru).1))
  wl : ∀ p : Pl, p.Ok → p.P ≤ 4 → ∀ W ∈ wsP p, ∀ ru, WL [.fro p.ch, .fro (kD W), .fro (.str (ruS ru))] = .ok (.fro (oD (lenW p W ru)), [.un, .un, .un])
  wo : ∀ p : Pl, p.Ok → p.P ≤ 4 → ∀ ru, ∃ rv, WO [.fro p.ch, .fro (.str (ruS ru))] = .ok (rv, [.un, .un]) ∧ Is rv (wD (worstOf p (wsP p) ru))
  br : ∀ p : Pl, p.Ok → p.P ≤ 4 → ∃ rv, BR [.fro p.ch] = .ok (rv, [.un]) ∧ Is rv (.lst ((bestOf p (wsP p)).map fun r => .str (ruS r)))
theorem ints0 (n : Nat) : intsD 0 n = Li ((List.range n).map fun i : Nat => (i : Int)) := by
  unfold intsD Li
  rw [List.map_map]
  exact List.map_congr_left fun i _ => by show D.int (0 + (i : Int)) = .int i; rw [Int.zero_add]
theorem lrangeP {n : Nat} (h : n ≤ 8) : oLRange (.int n) = .ok (.own (.lst (Li ((List.range n).map fun i : Nat => (i : Int))))) := by
  unfold oLRange
  have : small (n : Int) = true := by
    unfold small
    rw [Bool.and_eq_true]
    exact ⟨decide_eq_true (by omega), decide_eq_true (by omega)⟩
  dsimp only
  rw [this, decide_eq_true (show (n : Int).toNat ≤ 2 ^ 24 by omega)]
  show Res.ok (RV.own (.lst (intsD 0 (n : Int).toNat))) = _
  rw [Int.toNat_natCast, ints0]
theorem worlds_ok {p : Pl} (h : p.Ok) : everyB p.rs.length p.m = true := every_ok h.r1 h.r8 h.m0 h.m2
theorem all_true {MI WK WL WO BR : Fm} (G : Prog MI WK WL WO BR) (ns : List Int) : ∃ ρ, allB F__law_plan MI F__law_some F__law_walk WK WL WO BR F__law_number [.fro (.scr ns), .un, .un, .un, .un, .un, .un, .un, .un, .un, .un, .un, .un] = .ok (.ret (.fro (.bl true)), ρ) ∧ ρ.length = 13 ∧ (ρ.take 1).map outC = [.un] := by
  have hNU := m_number ns (k := 2) (by decide)
  have hmo : ∃ mo : Int, (mo = 3 ∨ mo = 5 ∨ mo = 8) ∧ oIx (.tup [.int 3, .int 5, .int 8]) (.int (numV ns 2 % 3)) = .ok (.fro (.int mo)) := by
    have h3 : numV ns 2 % 3 = 0 ∨ numV ns 2 % 3 = 1 ∨ numV ns 2 % 3 = 2 := by omega
    rcases h3 with e | e | e <;> rw [e]
    · exact ⟨3, .inl rfl, rfl⟩
    · exact ⟨5, .inr (.inl rfl), rfl⟩
    · exact ⟨8, .inr (.inr rfl), rfl⟩
  obtain ⟨mo, hmo, hm⟩ := hmo
  obtain ⟨p, h, h4, hPL⟩ := m_plan ns hmo
  obtain ⟨hSM, _, hws⟩ := everyB_ok (worlds_ok h)
  obtain ⟨rv, hBR, hrv⟩ := G.br p h h4
  refine all_ok (p := p) (ds := p.ds) (ws := wsP p) hNU hm hPL (G.mi p h) (lrangeP h.r8) hSM (fun ru => ⟨fun W hW => ?_, G.wo p h h4 ru⟩) hBR hrv
  obtain ⟨w1, _, _⟩ := hws W hW
  have w3 : W.length ≤ 3 := by have := h.m2; omega
  obtain ⟨rv, k1, k2⟩ := G.wk p h h4 W hW ru
  obtain ⟨g1, g2⟩ := walkN_in (walkOf_eq h.gd w3 ru) (fun r hr => by cases hr)
  exact ⟨_, _, rv, m_walk h.gd w3 ru, k1, k2, G.wl p h h4 W hW ru, rfl, g1, by simpa using g2⟩
theorem law_all {MI WK WL WO BR : Fm} (G : Prog MI WK WL WO BR) (ns : List Int) : runF 1 12 (allB F__law_plan MI F__law_some F__law_walk WK WL WO BR F__law_number) [.fro (.scr ns)] = .ok (.fro (.bl true), [.un]) := by
  obtain ⟨ρ, e, l13, t1⟩ := all_true G ns
  have := runF_fro (n := 1) (m := 12) (cs := [.fro (.scr ns)]) e rfl rfl (by rw [l13]; decide)
  rw [t1] at this
  exact this
theorem law_one {A : Fm} {sc : D} (h : A [.fro sc] = .ok (.fro (.bl true), [.un])) : runF 1 0 (sRet (eCall A (aCons (eVar 0) (aNil)))) [.fro sc] = .ok (.fro (.bl true), [.un]) := by
  simp [h]
theorem law_of (G : Prog F_Map___init__ F_walk F_walked F_worst F_best_rules) (ns : List Int) : ∃ cs, F_law [.fro (.scr ns)] = .ok (.fro (.bl true), cs) := by
  have h := law_all G ns
  rw [← all_is] at h
  exact ⟨_, law_one h⟩
end Dt
end

section
set_option Elab.async false
set_option linter.all false
set_option maxRecDepth 100000
set_option maxHeartbeats 4000000
set_option autoImplicit false
namespace Dt
open PySem PySem.Spec PyProof.Rows L2
/-! ### lengths the other way round: from the goal -/
theorem edges_flip {rs : List Rd} {w : List Int} {e : Rd} (he : e ∈ edges rs w) : (e.2.1, e.1, e.2.2) ∈ edges rs w := by
  unfold edges at he ⊢
  obtain ⟨q, hq, h⟩ := List.mem_flatMap.mp he
  refine List.mem_flatMap.mpr ⟨q, hq, ?_⟩
  split at h
  · cases h
  · rename_i hw
    rw [if_neg hw]
    simp at h ⊢
    rcases h with rfl | rfl
    · exact .inr ⟨rfl, rfl, rfl⟩
    · exact .inl ⟨rfl, rfl, rfl⟩
theorem Path.flip {rs : List Rd} {w : List Int} {i j : Nat} {z : Int} (p : Path (edges rs w) i j z) : Path (edges rs w) j i z := by
  induction p with
  | nil j => exact .nil j
  | cons he _ ih =>
    rw [Int.add_comm]
    exact ih.snoc (edges_flip he) rfl
theorem le_none (a : Option Int) : BF.le a none := by cases a <;> trivial
/-- the least length from the goal is that to the goal -/
theorem lenTo_flip {p : Pl} {w : List Int} (hP : 2 ≤ p.P) (h : ∀ r ∈ p.rs, RdOk p.P r) {x : Int} (x0 : 0 ≤ x) (xP : x < p.P) (g0 : 0 ≤ p.g) (gP : p.g < p.P) : lenTo { p with g := x } w p.g = lenTo p w x := by
  refine BF.le_anti ?_ ?_
  · cases e : lenTo p w x with
    | none => exact le_none _
    | some d => exact lenTo_le (p := { p with g := x }) hP h g0 gP (lenTo_path h x0 xP e).1.flip
  · cases e : lenTo { p with g := x } w p.g with
    | none => exact le_none _
    | some d => exact lenTo_le hP h x0 xP (lenTo_path (p := { p with g := x }) h g0 gP e).1.flip
end Dt
end

section
set_option Elab.async false
set_option linter.all false
set_option maxRecDepth 100000
set_option maxHeartbeats 4000000
set_option autoImplicit false
namespace Dt
open PySem PySem.Spec PyProof.Rows L2
/-! ### Map(..) and its parts -/
theorem filter_all {α : Type} {p : α → Bool} : ∀ {l : List α}, (∀ x ∈ l, p x = true) → l.filter p = l
  | [], _ => rfl
  | x :: l, h => by rw [List.filter_cons, h x (List.mem_cons_self ..), if_pos rfl, filter_all fun y hy => h y (List.mem_cons_of_mem _ hy)]
theorem bls_rep : ∀ n : Nat, bls (List.replicate n (.bl true)) = some (List.replicate n true)
  | 0 => rfl
  | n + 1 => by rw [List.replicate_succ, bls, bls_rep n]; rfl
@[simp] theorem oAll_rep (n : Nat) : oAll (.lst (List.replicate n (.bl true))) = .ok (.fro (.bl true)) := by
  show (Res.of (bls (List.replicate n (.bl true)))).bind _ = _
  rw [bls_rep]
  simp
/-- all of a comprehension whose elements are true -/
theorem lc_true {gf : GF} {vs : List Nat} {te : EF} {ρ0 : Env} {ds : List D} (h : ∀ d ∈ ds, ∃ ρ1 ρ3, gf d ρ0 = .ok ρ1 ∧ te ρ1 = .ok (.fro (.bl true), ρ3) ∧ wipeE ρ3 vs = ρ0) (hl : ds.length ≤ sizeLine) : lcL gf vs bYes te ds ρ0 [] = .ok (List.replicate ds.length (.bl true), ρ0) := by
  rw [lcL_map (fun _ => true) (fun _ => .bl true) (fun d hd => ?_) (by simpa using hl)]
  · rw [filter_all fun _ _ => rfl, List.map_const']; rfl
  · obtain ⟨ρ1, ρ3, h1, h2, h3⟩ := h d hd
    exact ⟨ρ1, ρ1, h1, rfl, by simp, fun _ => ⟨_, ρ3, h2, rfl, h3⟩⟩
theorem m_triples {P : Int} {rs : List Rd} (h1 : 1 ≤ rs.length) (h8 : rs.length ≤ 8) (hP : P ≤ 6) (hr : ∀ r ∈ rs, RdOk P r) (ha : rs.Pairwise fun a b => TS.code 64 (k3 a) < TS.code 64 (k3 b)) :
    F_are_triples [.fro (.int P), .fro (.tup (rs.map rd))] = .ok (.fro (.bl true), [.un, .un]) := by
  have hl : lcL (gN 2) [2] bYes (eCall F__is_triple (aCons (eVar 0) (aCons (eVar 2) aNil))) (rs.map rd) [.fro (.int P), .fro (.tup (rs.map rd)), .un] [] = .ok (List.replicate (rs.map rd).length (.bl true), [.fro (.int P), .fro (.tup (rs.map rd)), .un]) :=
    lc_true (fun d hd => by
      obtain ⟨r, hrr, rfl⟩ := List.mem_map.mp hd
      exact ⟨[.fro (.int P), .fro (.tup (rs.map rd)), .fro (rd r)], [.fro (.int P), .fro (.tup (rs.map rd)), .fro (rd r)], rfl, by simp [m_triple (hr r hrr)], rfl⟩) (by simp; exact sl8 (by omega))
  have e1 : (1 : Int) ≤ (rs.length : Int) := by omega
  have e2 : (rs.length : Int) ≤ 8 := by omega
  simp [F_are_triples, isi_tuple, Isi.of, hl, m_asc_rd h1 h8 hP hr ha, e1, e2]
theorem m_ends {P b g : Int} (hb : 0 ≤ b ∧ b < P) (hg : 0 ≤ g ∧ g < P) (hne : b ≠ g) : F_are_ends [.fro (.int P), .fro (.tup [.int b, .int g])] = .ok (.fro (.bl true), [.un, .un]) := by
  have hl : lcL (gN 2) [2] bYes (eCall F_is_within (aCons (eVar 2) (aCons (eC (.int 0)) (aCons (e2 oSub (eUse 0) (eC (.int 1))) aNil)))) [.int b, .int g] [.fro (.int P), .fro (.tup [.int b, .int g]), .un] [] = .ok ([.bl true, .bl true], [.fro (.int P), .fro (.tup [.int b, .int g]), .un]) := by
    have s1 : 0 < sizeLine := by decide
    have s2 : 1 < sizeLine := by decide
    have e1 : b ≤ P - 1 := by omega
    have e2 : g ≤ P - 1 := by omega
    simp [lcL, m_within, hb.1, hg.1, e1, e2, s1, s2]
  simp [F_are_ends, isi_tuple, Isi.of, hl, oAll, bls, oIx, L2.atI, L2.ixN]
  exact hne
theorem m_init {p : Pl} (h : p.Ok) : F_Map___init__ [.brw (.obj 0 []), .fro (.int p.P), .fro (.tup (p.rs.map rd)), .fro (.tup [.int p.b, .int p.g]), .fro (.int p.m)] = .ok (.fro .non, [.brw p.ch, .un, .un, .un, .un]) := by
  have h1 := h.P2; have h2 := h.P6; have h3 := h.m0; have h4 := h.m2
  simp [F_Map___init__, m_within, m_triples h.r1 h.r8 h.P6 h.rd h.asc, m_ends ⟨h.b0, h.bP⟩ ⟨h.g0, h.gP⟩ h.bg, h1, h2, h3, show p.m ≤ 3 by omega, sFld, Cell.mut, Cell.dat, Cell.put, Pl.ch, Pl.ds]
@[simp] theorem m_places (p : Pl) : F_Map_places [.fro (.obj 0 p.ds)] = .ok (.fro (.int p.P), [.un]) := by simp [F_Map_places, Pl.ds]
@[simp] theorem m_roads (p : Pl) : F_Map_roads [.fro (.obj 0 p.ds)] = .ok (.fro (.tup (p.rs.map rd)), [.un]) := by simp [F_Map_roads, Pl.ds]
@[simp] theorem m_ends_ (p : Pl) : F_Map_ends [.fro (.obj 0 p.ds)] = .ok (.fro (.tup [.int p.b, .int p.g]), [.un]) := by simp [F_Map_ends, Pl.ds]
@[simp] theorem m_most (p : Pl) : F_Map_most [.fro (.obj 0 p.ds)] = .ok (.fro (.int p.m), [.un]) := by simp [F_Map_most, Pl.ds]
@[simp] theorem m_len (p : Pl) : F_Map___len__ [.fro (.obj 0 p.ds)] = .ok (.fro (.int p.rs.length), [.un]) := by simp [F_Map___len__, Pl.ds]
@[simp] theorem m_check (p : Pl) : F_check_map [.fro (.obj 0 p.ds)] = .ok (.fro .non, [.un]) := by simp [F_check_map, isi_Map, Isi.of]
@[simp] theorem ch_def (p : Pl) : p.ch = .obj 0 p.ds := rfl

/-! ### the roads at a place -/
theorem m_roads_at (p : Pl) (x : Int) (h8 : p.rs.length ≤ 8) : F_roads_at [.fro p.ch, .fro (.int x)] = .ok (.own (.lst (Li (atR p.rs x))), [.un, .un]) := by
  have hl : lcL (gT 2 (gsCons (gN 2) (gsCons (gT 3 (gsCons (gN 3) (gsCons (gN 4) (gsCons (gN 5) gsNil)))) gsNil))) [2, 3, 4, 5] (bB (e2 (oIn false) (eUse 1) (eTup (aCons (eVar 3) (aCons (eVar 4) aNil))))) (eVar 2) (pairs (p.rs.map rd)) [.fro p.ch, .fro (.int x), .un, .un, .un, .un] []
      = .ok (Li (atR p.rs x), [.fro p.ch, .fro (.int x), .un, .un, .un, .un]) := by
    rw [lcL_map (bAt x) yFst (fun d hd => ?_) (by rw [zip_len]; simp; exact sl8 (by omega)), at_eq]
    · rfl
    · rw [pairs_map] at hd
      obtain ⟨q, hq, rfl⟩ := List.mem_map.mp hd
      have s2 : 2 ≤ sizeLine := by decide
      refine ⟨[.fro p.ch, .fro (.int x), .fro (.int (q.2 : Nat)), .fro (.int q.1.1), .fro (.int q.1.2.1), .fro (.int q.1.2.2)], [.fro p.ch, .fro (.int x), .fro (.int (q.2 : Nat)), .fro (.int q.1.1), .fro (.int q.1.2.1), .fro (.int q.1.2.2)], by simp [rd], ?_, fun _ => rfl, fun _ => ⟨.fro (.int (q.2 : Nat)), [.fro p.ch, .fro (.int x), .fro (.int (q.2 : Nat)), .fro (.int q.1.1), .fro (.int q.1.2.1), .fro (.int q.1.2.2)], by simp, rfl, rfl⟩⟩
      simp [oIn_two, s2, bAt, rd]
  simp only [ch_def] at hl ⊢
  simp [F_roads_at, hl]
end Dt
end

section
set_option Elab.async false
set_option linter.all false
set_option maxRecDepth 100000
set_option maxHeartbeats 4000000
set_option autoImplicit false
namespace Dt
open PySem PySem.Spec PyProof.Rows L2
/-! ### sorted of ints -/
def leI (a b : Int) : Bool := decide (a ≤ b)
abbrev srt (l : List Int) : List Int := sortS leI l
theorem pys_ints : ∀ l : List Int, D.pys (Li l) = some (l.map .int)
  | [] => rfl
  | i :: l => by rw [Li, List.map_cons, D.pys, show D.pys (l.map .int) = _ from pys_ints l]; rfl
theorem insS_map {α β : Type} {le : α → α → Bool} {le' : β → β → Bool} (f : α → β) (h : ∀ a b, le' (f a) (f b) = le a b) (x : α) : ∀ l : List α, insS le' (f x) (l.map f) = (insS le x l).map f
  | [] => rfl
  | y :: l => by
    rw [List.map_cons, insS, insS, h]
    split
    · rfl
    · rw [insS_map f h x l]; rfl
theorem sortS_map {α β : Type} {le : α → α → Bool} {le' : β → β → Bool} (f : α → β) (h : ∀ a b, le' (f a) (f b) = le a b) : ∀ l : List α, sortS le' (l.map f) = (sortS le l).map f
  | [] => rfl
  | x :: l => by
    rw [List.map_cons, sortS, sortS_map f h l, insS_map f h]; rfl
theorem leD_int (a b : Int) : leD (.int a, .int a) (.int b, .int b) = leI a b := by
  have := congrFun (congrFun (PySem.W.dataLe_int (β := Int) fun x => x) a) b
  exact this
theorem sortD_ints (l : List Int) : sortD ((Li l).zip (l.map PyData.int)) = Li (srt l) := by
  have e : (Li l).zip (l.map PyData.int) = l.map fun i => ((D.int i, PyData.int i) : D × PyData) := by
    unfold Li
    induction l with
    | nil => rfl
    | cons i l ih => rw [List.map_cons, List.map_cons, List.zip_cons_cons, ih]; rfl
  unfold sortD
  rw [e, sortS_map (fun i : Int => ((D.int i, PyData.int i) : D × PyData)) leD_int, List.map_map]; rfl
theorem alike_ints (l : List Int) : alikeB (l.map .int) = true := List.all_eq_true.mpr fun d hd => List.all_eq_true.mpr fun e he => by
  obtain ⟨a, _, rfl⟩ := List.mem_map.mp hd
  obtain ⟨b, _, rfl⟩ := List.mem_map.mp he
  rfl
theorem sortable_ints (l : List Int) : sortableB (l.map .int) = true := by
  unfold sortableB
  rw [Bool.or_eq_true]
  refine .inr (List.all_eq_true.mpr fun d hd => ?_)
  obtain ⟨a, _, rfl⟩ := List.mem_map.mp hd
  rfl
theorem oSorted_items {d : D} {l : List Int} (h : d.items = some (Li l)) : oSorted d = .ok (.own (.lst (Li (srt l)))) := by
  unfold oSorted
  rw [h, Res.of_some, Res.bind_ok, pys_ints, Res.of_some, Res.bind_ok, alike_ints, sortable_ints]
  have : (l.map PyData.int).all (fun p => decide (p.depth ≤ 60)) = true := List.all_eq_true.mpr fun d hd => by
    obtain ⟨a, _, rfl⟩ := List.mem_map.mp hd
    rfl
  rw [this, sortD_ints]; rfl
@[simp] theorem oSorted_lst (l : List Int) : oSorted (.lst (Li l)) = .ok (.own (.lst (Li (srt l)))) := oSorted_items rfl
@[simp] theorem oSorted_tup (l : List Int) : oSorted (.tup (Li l)) = .ok (.own (.lst (Li (srt l)))) := oSorted_items rfl
theorem leI_total : PySem.W.TotalLe leI := ⟨fun a b c h1 h2 => by unfold leI at *; simp at *; omega, fun a b => by unfold leI; simp; omega⟩
theorem srt_mem {l : List Int} {x : Int} : x ∈ srt l ↔ x ∈ l := by
  induction l with
  | nil => simp [srt, sortS]
  | cons y l ih =>
    show x ∈ insS leI y (sortS leI l) ↔ _
    rw [mem_insS]
    simp [ih]
theorem srt_len (l : List Int) : (srt l).length = l.length := length_sortS l
theorem srt_nodup {l : List Int} (h : l.Nodup) : (srt l).Nodup := by
  induction l with
  | nil => exact List.Pairwise.nil
  | cons y l ih =>
    obtain ⟨h1, h2⟩ := List.nodup_cons.mp h
    have hn : y ∉ sortS leI l := fun z => h1 (srt_mem.mp z)
    have ihl : (sortS leI l).Nodup := ih h2
    clear ih
    show (insS leI y (sortS leI l)).Nodup
    generalize sortS leI l = m at hn ihl
    induction m with
    | nil => simp [insS]
    | cons z m ihm =>
      obtain ⟨a1, a2⟩ := List.nodup_cons.mp ihl
      unfold insS
      split
      · exact List.nodup_cons.mpr ⟨hn, ihl⟩
      · refine List.nodup_cons.mpr ⟨fun w => ?_, ihm (fun w => hn (List.mem_cons_of_mem _ w)) a2⟩
        rcases mem_insS.mp w with w | w
        · exact hn (w ▸ List.mem_cons_self ..)
        · exact a1 w
/-- distinct ints, sorted: strictly ascending -/
theorem srt_asc {l : List Int} (h : l.Nodup) : (srt l).Pairwise (· < ·) := by
  have h1 := pw_sortS leI_total l
  have h2 : (srt l).Pairwise (· ≠ ·) := srt_nodup h
  refine (h1.and h2).imp fun {a b} q => ?_
  have := q.1
  unfold leI at this
  have := of_decide_eq_true this
  have := q.2
  omega

/-! ### the states at a place: program and law -/
@[simp] theorem oSorted_app (a b : List Int) : oSorted (.lst (a.map D.int ++ b.map D.int)) = .ok (.own (.lst ((srt (a ++ b)).map D.int))) := by
  rw [← List.map_append]; exact oSorted_lst (a ++ b)
@[simp] theorem oSorted_appT (a b : List Int) : oSorted (.tup (a.map D.int ++ b.map D.int)) = .ok (.own (.lst ((srt (a ++ b)).map D.int))) := by
  rw [← List.map_append]; exact oSorted_tup (a ++ b)
def stD (x : Int) (c s : List Int) : D := .tup [.int x, .tup (Li c), .tup (Li s)]
def rest (f s : List Int) : List Int := f.filter fun r => !s.contains r
def fresh (rs : List Rd) (x : Int) (c s : List Int) : List Int := (atR rs x).filter fun r => !c.contains r && !s.contains r
section
variable {p : Pl} {x : Int} {c s f : List Int}
/-- the unknown roads at a place -/
theorem m_unknown (h8 : p.rs.length ≤ 8) (hf : (atR p.rs x).length ≤ 8) :
    F__unknown_at [.fro p.ch, .fro (.int x), .fro (.tup (Li c)), .fro (.tup (Li s))] = .ok (.own (.lst (Li (fresh p.rs x c s))), [.un, .un, .un, .un]) := by
  have hl : lcL (gN 4) [4] (bAnd (bB (e2 (oIn true) (eUse 4) (eUse 2))) (bB (e2 (oIn true) (eUse 4) (eUse 3)))) (eVar 4) ((atR p.rs x).map D.int) [.fro (.obj 0 p.ds), .fro (.int x), .fro (.tup (Li c)), .fro (.tup (Li s)), .un] []
      = .ok ((fresh p.rs x c s).map D.int, [.fro (.obj 0 p.ds), .fro (.int x), .fro (.tup (Li c)), .fro (.tup (Li s)), .un]) :=
    lc_ints (fun r => !c.contains r && !s.contains r) (fun r hr => by
      simp
      cases hx : c.contains r <;> simp_all) rfl (sl8 (by omega))
  have hr := m_roads_at p x h8
  simp only [ch_def] at hr
  simp [F__unknown_at, hr, hl]
/-- the state when some of the unknown roads are closed; these may be a tuple or a list -/
theorem m_state_at {k : List Int} {dk : D} (hk : dk = .tup (Li k) ∨ dk = .lst (Li k)) (hc : c.length ≤ 8) (hs : s.length ≤ 8) (hf : f.length ≤ 8) (h8 : k.length ≤ 8) :
    F__state_at [.fro (.int x), .fro (.tup (Li c)), .fro (.tup (Li s)), .fro (.lst (Li f)), .fro dk] = .ok (.fro (stD x (srt (c ++ rest f k)) (srt (s ++ k))), [.un, .un, .un, .un, .un]) := by
  have hl : lcL (gN 6) [6] (bB (e2 (oIn true) (eUse 6) (eUse 4))) (eVar 6) (f.map D.int) [.fro (.int x), .fro (.tup (Li c)), .fro (.tup (Li s)), .fro (.lst (Li f)), .fro dk, .un, .un] []
      = .ok ((rest f k).map D.int, [.fro (.int x), .fro (.tup (Li c)), .fro (.tup (Li s)), .fro (.lst (Li f)), .fro dk, .un, .un]) :=
    lc_ints (fun r => !k.contains r) (fun r hr => by rcases hk with rfl | rfl <;> simp) rfl (sl8 (by omega))
  have hr : (rest f k).length ≤ 8 := Nat.le_trans (List.length_filter_le _ _) hf
  have z1 : c.length + (rest f k).length ≤ sizeLine := sl8 (by omega)
  have z2 : s.length + k.length ≤ sizeLine := sl8 (by omega)
  have z3 : 3 ≤ sizeLine := by decide
  rcases hk with rfl | rfl <;> simp [F__state_at, hl, z1, z2, z3, stD]
end

end Dt
end

section
set_option Elab.async false
set_option linter.all false
set_option maxRecDepth 100000
set_option maxHeartbeats 4000000
set_option autoImplicit false
namespace Dt
open PySem PySem.Spec PyProof.Rows L2
/-! ### places of roads; what is in order -/
theorem asc_len : ∀ (f : Nat) (k : Int) (l : List Int), l.Pairwise (· < ·) → (∀ x ∈ l, k ≤ x ∧ x < k + f) → l.length ≤ f
  | f, k, [], _, _ => Nat.zero_le _
  | 0, k, x :: l, _, h => by
    have := h x (List.mem_cons_self ..)
    omega
  | f + 1, k, x :: l, hp, h => by
    obtain ⟨h1, h2⟩ := List.pairwise_cons.mp hp
    have hx := h x (List.mem_cons_self ..)
    have := asc_len f (k + 1) l h2 fun y hy => by
      have := h1 y hy
      have := h y (List.mem_cons_of_mem _ hy)
      omega
    rw [List.length_cons]; omega
theorem InR.len {n : Nat} {l : List Int} (h : InR n l) (a : l.Pairwise (· < ·)) : l.length ≤ n := asc_len n 0 l a fun x hx => by have := h x hx; omega
theorem asc_nodup {l : List Int} (h : l.Pairwise (· < ·)) : l.Nodup := h.imp fun {a b} q => by omega
section
end
/-! ### states -/
structure CsOk (p : Pl) (c s : List Int) : Prop where
  ca : c.Pairwise (· < ·)
  ci : InR p.rs.length c
  sa : s.Pairwise (· < ·)
  si : InR p.rs.length s
  sm : (s.length : Int) ≤ p.m
  dj : ∀ r ∈ c, r ∉ s
structure StOk (p : Pl) (x : Int) (c s : List Int) : Prop extends CsOk p c s where
  x0 : 0 ≤ x
  xP : x < p.P
  all : ∀ r ∈ atR p.rs x, r ∈ c ∨ r ∈ s
section
variable {p : Pl} {x : Int} {c s : List Int}
theorem len63 (h8 : p.rs.length ≤ 8) : (decide (0 ≤ (p.rs.length : Int)) && decide ((p.rs.length : Int) < 2 ^ 63)) = true := by
  rw [Bool.and_eq_true]
  exact ⟨decide_eq_true (Int.natCast_nonneg _), decide_eq_true (Int.lt_of_le_of_lt (Int.ofNat_le.mpr h8) (by decide))⟩
theorem z_len2 (n : Int) (h : (decide (0 ≤ n) && decide (n < 2 ^ 63)) = true) {f : EF} {k : Fm} {c : Nat} {ρ ρ' : Env} (e : oSelf c k f ρ = .ok (.fro (.int n), ρ')) : eLenO c k f ρ = .ok (.fro (.int n), ρ') := by
  unfold eLenO
  rw [e, Res.bind_ok]
  dsimp only
  rw [h]
  rfl
theorem self_len {i : Nat} {ρ : Env} (h : ρ[i]? = some (.fro (.obj 0 p.ds))) : oSelf 0 F_Map___len__ (eVar i) ρ = .ok (.fro (.int p.rs.length), ρ) := by
  rw [z_oSelf, z_eVar, h]
  simp only [Res.bind_ok, m_len, beq_self_eq_true, Res.need_true, z_made_fro]
theorem m_lenO {i : Nat} {ρ : Env} (h : ρ[i]? = some (.fro (.obj 0 p.ds))) (h8 : p.rs.length ≤ 8) : eLenO 0 F_Map___len__ (eVar i) ρ = .ok (.fro (.int p.rs.length), ρ) := z_len2 _ (len63 h8) (self_len h)
theorem w1 {r : Int} {n : Nat} {x : D} (L : EF) (h : 0 ≤ r ∧ r ≤ (n : Int) - 1) (h3 : L [.fro x, .fro (.int r)] = .ok (.fro (.int n), [.fro x, .fro (.int r)])) : runF 2 0 (sRet (eCall F_is_within (aCons (eVar 1) (aCons (eC (.int 0)) (aCons (e2 oSub L (eC (.int 1))) aNil))))) [.fro x, .fro (.int r)] = .ok (.fro (.bl true), [.un, .un]) := by
  simp [m_within, h.1, h.2, h3]
theorem w2 {r : Int} {n : Nat} {x : D} (h : 0 ≤ r ∧ r ≤ (n : Int) - 1) (h3 : eLenO 0 F_Map___len__ (eVar 0) [.fro x, .fro (.int r)] = .ok (.fro (.int n), [.fro x, .fro (.int r)])) : F_is_road [.fro x, .fro (.int r)] = .ok (.fro (.bl true), [.un, .un]) := w1 _ h h3
theorem m_is_road {r : Int} (h : 0 ≤ r ∧ r < p.rs.length) (h8 : p.rs.length ≤ 8) : F_is_road [.fro p.ch, .fro (.int r)] = .ok (.fro (.bl true), [.un, .un]) := w2 (n := p.rs.length) ⟨h.1, by omega⟩ (m_lenO (p := p) rfl h8)
theorem w3 {l : List Int} {x : D} (G A : Fm) (hG : ∀ r ∈ l, G [.fro x, .fro (.int r)] = .ok (.fro (.bl true), [.un, .un])) (hA : A [.fro (.tup (Li l))] = .ok (.fro (.bl true), [.un])) (hn : l.length ≤ 8) :
    runF 2 1 (sRet (eAnd (e1 (oIsi isi_tuple) (eUse 1)) (eAnd (eCB (c1 oAll) (aCons (eLc (gN 2) [2] (iData (eVar 1)) (bYes) (eCall G (aCons (eVar 0) (aCons (eVar 2) (aNil))))) (aNil))) (eCall A (aCons (eVar 1) (aNil)))))) [.fro x, .fro (.tup (Li l))] = .ok (.fro (.bl true), [.un, .un]) := by
  have hl : lcL (gN 2) [2] bYes (eCall G (aCons (eVar 0) (aCons (eVar 2) aNil))) (l.map D.int) [.fro x, .fro (.tup (Li l)), .un] [] = .ok (List.replicate (l.map D.int).length (.bl true), [.fro x, .fro (.tup (Li l)), .un]) :=
    lc_true (fun d hd => by
      obtain ⟨r, hr, rfl⟩ := List.mem_map.mp hd
      have q := hG r hr
      exact ⟨[.fro x, .fro (.tup (Li l)), .fro (.int r)], [.fro x, .fro (.tup (Li l)), .fro (.int r)], rfl, by simp [q], rfl⟩) (by simp; exact sl8 (by omega))
  simp [isi_tuple, Isi.of, hl, hA]
theorem m_are_roads {l : List Int} (hi : InR p.rs.length l) (ha : l.Pairwise (· < ·)) (h8 : p.rs.length ≤ 8) : F_are_roads [.fro p.ch, .fro (.tup (Li l))] = .ok (.fro (.bl true), [.un, .un]) :=
  w3 F_is_road F_ascends (fun r hr => m_is_road (p := p) (hi r hr) h8) (m_asc_L (by have := hi.len ha; omega) ha) (by have := hi.len ha; omega)
theorem m_is_world {l : List Int} (hi : InR p.rs.length l) (ha : l.Pairwise (· < ·)) (hm : (l.length : Int) ≤ p.m) (h8 : p.rs.length ≤ 8) : F_is_world [.fro p.ch, .fro (.tup (Li l))] = .ok (.fro (.bl true), [.un, .un]) := by
  have h := m_are_roads (p := p) hi ha h8
  simp only [ch_def] at h ⊢
  simp [F_is_world, h, hm]
theorem m_check_world {l : List Int} (hi : InR p.rs.length l) (ha : l.Pairwise (· < ·)) (hm : (l.length : Int) ≤ p.m) (h8 : p.rs.length ≤ 8) : F_check_world [.fro p.ch, .fro (.tup (Li l))] = .ok (.fro .non, [.un, .un]) := by
  have h := m_is_world (p := p) hi ha hm h8
  simp only [ch_def] at h ⊢
  simp [F_check_world, h]
theorem lc_bools {i : Nat} {te : EF} {ρ0 : Env} (b : Int → Bool) {l : List Int} (h : ∀ r ∈ l, te (ρ0.set i (.fro (.int r))) = .ok (.fro (.bl (b r)), ρ0.set i (.fro (.int r)))) (hi : ρ0[i]? = some .un) (hl : l.length ≤ sizeLine) :
    lcL (gN i) [i] bYes te (l.map D.int) ρ0 [] = .ok (l.map fun r => .bl (b r), ρ0) := by
  have hlt : i < ρ0.length := (List.getElem?_eq_some_iff.mp hi).1
  have hw : ∀ c, (ρ0.set i c).set i .un = ρ0 := fun c => by
    rw [List.set_set]
    apply List.ext_getElem?
    intro k
    by_cases hk : i = k
    · subst hk; rw [List.getElem?_set_self hlt, hi]
    · rw [List.getElem?_set_ne hk]
  rw [lcL_map (fun _ => true) (fun d => match d with | .int r => .bl (b r) | _ => .non) (fun d hd => ?_) (by simpa using hl)]
  · rw [filter_all fun _ _ => rfl, List.nil_append, List.map_map]; rfl
  · obtain ⟨r, hr, rfl⟩ := List.mem_map.mp hd
    exact ⟨_, _, rfl, rfl, by simp, fun _ => ⟨_, _, h r hr, rfl, hw (.fro (.int r))⟩⟩
end

end Dt
end

section
set_option Elab.async false
set_option linter.all false
set_option maxRecDepth 100000
set_option maxHeartbeats 4000000
set_option autoImplicit false
namespace Dt
open PySem PySem.Spec PyProof.Rows L2
section
variable {p : Pl} {x : Int} {c s : List Int}
theorem w5a {x : D} {y : Int} {c s a : List Int} (R : Fm) (h3 : R [.fro x, .fro (.int y)] = .ok (.own (.lst (Li a)), [.un, .un])) (ha : a.length ≤ 8) :
    (runF 2 4 (sCons (sAsg (gT 3 (gsCons (gN 2) (gsCons (gN 3) (gsCons (gN 4) (gsNil))))) (eVar 1)) (sRet (eLc (gN 5) [5] (iData (eCall R (aCons (eVar 0) (aCons (eVar 2) (aNil))))) (bB (e2 (oIn false) (eUse 5) (eUse 3))) (eVar 5))))) [.fro x, .fro (stD y c s)] = .ok (.own (.lst (Li (a.filter fun r => c.contains r))), [.un, .un]) := by
  have hl : lcL (gN 5) [5] (bB (e2 (oIn false) (eUse 5) (eUse 3))) (eVar 5) (a.map D.int) [.fro x, .fro (stD y c s), .fro (.int y), .fro (.tup (Li c)), .fro (.tup (Li s)), .un] [] = .ok ((a.filter fun r => c.contains r).map D.int, [.fro x, .fro (stD y c s), .fro (.int y), .fro (.tup (Li c)), .fro (.tup (Li s)), .un]) :=
    lc_ints (fun r => c.contains r) (fun r hr => by simp) rfl (sl8 (by omega))
  simp only [stD, Li, List.contains_eq_mem] at hl
  simp [stD, h3, hl]
def waysOf (rs : List Rd) (x : Int) (c : List Int) : List Int := (atR rs x).filter fun r => c.contains r
theorem m_open_roads (h8 : p.rs.length ≤ 8) : F_open_roads [.fro p.ch, .fro (stD x c s)] = .ok (.own (.lst (Li (waysOf p.rs x c))), [.un, .un]) :=
  w5a F_roads_at (m_roads_at p x h8) (by have := (at_in p.rs x).len (at_asc p.rs x); omega)
theorem atI_nat {α : Type} {l : List α} {i : Nat} {a : α} (h : l[i]? = some a) : L2.atI l (i : Int) = some a := by
  have hl := (List.getElem?_eq_some_iff.mp h).1
  have e : L2.ixN l.length (i : Int) = some i := by
    unfold L2.ixN
    simp [hl]
  unfold L2.atI
  rw [e]; exact h
def otherEnd (q : Rd) (x : Int) : Int := if x = q.1 then q.2.1 else q.1
theorem m_other {i : Nat} {q : Rd} (h : p.rs[i]? = some q) : F_other_end [.fro p.ch, .fro (.int (i : Nat)), .fro (.int x)] = .ok (.fro (.int (otherEnd q x)), [.un, .un, .un]) := by
  have e : oIx (.tup (p.rs.map rd)) (.int (i : Nat)) = .ok (.fro (rd q)) := by
    show (Res.of (L2.atI (p.rs.map rd) (i : Int))).bind _ = _
    rw [atI_nat (a := rd q) (by rw [List.getElem?_map, h]; rfl)]; rfl
  simp only [ch_def]
  simp [F_other_end, e]
  simp [rd, otherEnd]
  by_cases hx : x = q.1 <;> simp [hx]
end

/-! ### least lengths: rounds over the roads -/
theorem ix_at {b : Vs} {u : Int} (h0 : 0 ≤ u) (h1 : u < b.length) : oIx (.lst (b.map oD)) (.int u) = .ok (.fro (oD (gt b u))) := by
  show (Res.of (L2.atI (b.map oD) u)).bind _ = _
  have h2 : u.toNat < b.length := by omega
  have e : L2.atI (b.map oD) u = some (oD (gt b u)) := by
    unfold L2.atI
    rw [List.length_map, ixN_at h0 h1]
    unfold gt
    simp [h2]
  rw [e]; rfl
theorem map_set_oD (b : Vs) (i : Nat) (v : Int) : (b.map oD).set i (.int v) = (b.set i (some v)).map oD := by rw [List.map_set]; rfl
@[simp] theorem isN_none : (oD none).isN = true := rfl
@[simp] theorem isN_some (v : Int) : (oD (some v)).isN = false := rfl
theorem z_sSetIx {i : Nat} {fk fe : EF} {ρ : Env} : sSetIx i fk fe ρ = (fe ρ).bind fun p => (Res.of p.1.take).bind fun x => (Res.need (isL i p.2)).bind fun _ => (fk p.2).bind fun q => (Res.of (deref q.2 q.1.hold)).bind fun kd => match kd with
  | .int k => (putL i (fun ds => (Res.of (ixN ds.length k)).bind fun j => .ok (ds.set j x)) q.2).bind fun ρ1 => .ok (.nx, ρ1)
  | _ => .bad := rfl
theorem m_lower {b : Vs} {u v l : Int} (u0 : 0 ≤ u) (u1 : u < b.length) (v0 : 0 ≤ v) (v1 : v < b.length) : F__lower [.brw (.lst (b.map oD)), .fro (.int u), .fro (.int v), .fro (.int l)] = .ok (.fro .non, [.brw (.lst ((relax b u v l).map oD)), .un, .un, .un]) := by
  have e1 := ix_at u0 u1
  have e2 := ix_at v0 v1
  have e3 : L2.ixN b.length v = some v.toNat := ixN_at v0 v1
  unfold relax
  cases hu : gt b u with
  | none =>
    rw [hu] at e1
    have e1 : oIx (.lst (b.map oD)) (.int u) = .ok (.fro .non) := e1
    simp [F__lower, e1, D.isN]
  | some d =>
    rw [hu] at e1
    have e1 : oIx (.lst (b.map oD)) (.int u) = .ok (.fro (.int d)) := e1
    cases hv : gt b v with
    | none =>
      rw [hv] at e2
      have e2 : oIx (.lst (b.map oD)) (.int v) = .ok (.fro .non) := e2
      simp [F__lower, e1, e2, D.isN, z_sSetIx, isL, putL, Cell.mut, Cell.dat, Cell.put, e3, map_set_oD]
    | some e =>
      rw [hv] at e2
      have e2 : oIx (.lst (b.map oD)) (.int v) = .ok (.fro (.int e)) := e2
      by_cases hlt : d + l < e
      · simp [F__lower, e1, e2, D.isN, z_sSetIx, isL, putL, Cell.mut, Cell.dat, Cell.put, e3, map_set_oD, hlt]
      · simp [F__lower, e1, e2, D.isN, hlt]
@[simp] theorem oneB_bor (i : Nat) (r : List RV) : oneB (.bor i :: r) = (frozen r).map fun ds => ([], i, ds) := rfl
theorem z_eCallB {f : Fm} {g : AF} {ρ : Env} : eCallB f g ρ = (g ρ).bind fun p => (Res.of (oneB p.1)).bind fun b => (Res.of p.2[b.2.1]?).bind fun c => (Res.need c.mut).bind fun _ => (Res.of c.dat).bind fun d =>
  (f (b.1.map .fro ++ .brw d :: b.2.2.map .fro)).bind fun q => (Res.need q.1.made).bind fun _ => match q.2[b.1.length]? with
    | some (.brw d') => .ok (q.1, p.2.set b.2.1 (c.put d'))
    | _ => .bad := rfl
/-- the roads with other lengths -/
def prd (rs : List Rd) (pr : List Int) : List Rd := rs.zipIdx.map fun q => (q.1.1, q.1.2.1, pr.getD q.2 0)
def lens (rs : List Rd) : List Int := rs.map fun r => r.2.2
theorem prd_len (rs : List Rd) (pr : List Int) : (prd rs pr).length = rs.length := by unfold prd; rw [List.length_map, List.length_zipIdx]
theorem prd_lens (rs : List Rd) : prd rs (lens rs) = rs := by
  unfold prd lens
  apply List.ext_getElem?
  intro i
  simp only [List.getElem?_map, List.getElem?_zipIdx, Nat.zero_add]
  cases h : rs[i]? with
  | none => rfl
  | some r => simp [List.getD_eq_getElem?_getD, h]
theorem prd_zip (rs : List Rd) (pr : List Int) : (prd rs pr).zipIdx = rs.zipIdx.map fun q => ((q.1.1, q.1.2.1, pr.getD q.2 0), q.2) := by
  unfold prd
  apply List.ext_getElem?
  intro i
  simp only [List.getElem?_map, List.getElem?_zipIdx, Nat.zero_add]
  cases h : rs[i]? with
  | none => rfl
  | some r => simp
section
variable {p : Pl} {w pr : List Int} {dw : D}
def gIP : GF := gT 2 (gsCons (gN 6) (gsCons (gT 3 (gsCons (gN 7) (gsCons (gN 8) (gsCons (gN 5) (gsNil))))) (gsNil)))
def bodyS (L : Fm) : SF := sIf (bB (e2 (oIn true) (eUse 6) (eUse 2))) (sCons (sDrop (eCallB L (aCons (eUse 4) (aCons (eVar 7) (aCons (eVar 8) (aCons (e2 oIx (eUse 3) (eUse 6)) (aNil))))))) (sDrop (eCallB L (aCons (eUse 4) (aCons (eVar 8) (aCons (eVar 7) (aCons (e2 oIx (eUse 3) (eUse 6)) (aNil)))))))) (sNil)
def envS (p : Pl) (dw : D) (pr : List Int) (beg : Int) (b : Vs) (u5 u6 u7 u8 : Cell) : Env := [.fro (.obj 0 p.ds), .fro (.int beg), .fro dw, .fro (.lst (Li pr)), .own (.lst (b.map oD)), u5, u6, u7, u8]
/-- a road with its price -/
abbrev pq (pr : List Int) (q : Rd × Nat) : Rd × Nat := ((q.1.1, q.1.2.1, pr.getD q.2 0), q.2)
theorem ix_li {pr : List Int} {k : Nat} (h : k < pr.length) : oIx (.lst (pr.map D.int)) (.int (k : Nat)) = .ok (.fro (.int (pr.getD k 0))) := by
  show (Res.of (L2.atI (pr.map D.int) (k : Int))).bind _ = _
  rw [atI_nat (a := .int (pr.getD k 0)) (by rw [List.getElem?_map, List.getElem?_eq_getElem h, List.getD_eq_getElem?_getD, List.getElem?_eq_getElem h]; rfl)]; rfl
theorem bodyS_ok {beg : Int} {b : Vs} {q : Rd × Nat} {c5 : Cell} (L : Fm) (hw : dw = .tup (Li w) ∨ dw = .lst (Li w)) (hL : ∀ (b : Vs) (u v l : Int), 0 ≤ u → u < b.length → 0 ≤ v → v < b.length → L [.brw (.lst (b.map oD)), .fro (.int u), .fro (.int v), .fro (.int l)] = .ok (.fro .non, [.brw (.lst ((relax b u v l).map oD)), .un, .un, .un]))
    (hq : RdOk p.P q.1) (hb : (b.length : Int) = p.P) (hp : q.2 < pr.length) : bodyS L (envS p dw pr beg b c5 (.fro (.int q.2)) (.fro (.int q.1.1)) (.fro (.int q.1.2.1))) = .ok (.nx, envS p dw pr beg (step w b (pq pr q)) c5 (.fro (.int q.2)) (.fro (.int q.1.1)) (.fro (.int q.1.2.1))) := by
  have h1 := hq.a0; have h2 := hq.ab; have h3 := hq.bP
  have s1 := hL b q.1.1 q.1.2.1 (pr.getD q.2 0) h1 (by omega) (by omega) (by omega)
  have s2 := hL (relax b q.1.1 q.1.2.1 (pr.getD q.2 0)) q.1.2.1 q.1.1 (pr.getD q.2 0) (by omega) (by rw [relax_len]; omega) h1 (by rw [relax_len]; omega)
  have hx := ix_li hp
  have hin : oIn true (.int (q.2 : Nat)) dw = .ok (.fro (.bl (!w.contains (q.2 : Int)))) := by rcases hw with rfl | rfl <;> simp
  unfold step
  simp only [List.getD_eq_getElem?_getD] at s1 s2 hx
  cases hc : w.contains (q.2 : Int) with
  | true =>
    rw [hc] at hin
    simp [bodyS, envS, hin]
  | false =>
    rw [hc] at hin
    simp [bodyS, envS, hin, z_eCallB, Cell.mut, Cell.dat, Cell.put, s1, s2, hx, Li]
theorem loopS {beg : Int} (L : Fm) (hw : dw = .tup (Li w) ∨ dw = .lst (Li w)) (hL : ∀ (b : Vs) (u v l : Int), 0 ≤ u → u < b.length → 0 ≤ v → v < b.length → L [.brw (.lst (b.map oD)), .fro (.int u), .fro (.int v), .fro (.int l)] = .ok (.fro .non, [.brw (.lst ((relax b u v l).map oD)), .un, .un, .un])) :
    ∀ (qs : List (Rd × Nat)) (b : Vs) (u5 u6 u7 u8 : Cell), (∀ q ∈ qs, RdOk p.P q.1 ∧ q.2 < pr.length) → (b.length : Int) = p.P →
    ∃ v5 v6 v7 v8, forL gIP (bodyS L) (qs.map fun q => .tup [.int (q.2 : Nat), rd q.1]) (envS p dw pr beg b u5 u6 u7 u8) = .ok (.nx, envS p dw pr beg ((qs.map (pq pr)).foldl (step w) b) v5 v6 v7 v8)
  | [], b, u5, u6, u7, u8, _, _ => ⟨u5, u6, u7, u8, rfl⟩
  | q :: qs, b, u5, u6, u7, u8, hq, hb => by
    obtain ⟨v5, v6, v7, v8, ih⟩ := loopS L hw hL qs (step w b (pq pr q)) (.fro (.int q.1.2.2)) (.fro (.int q.2)) (.fro (.int q.1.1)) (.fro (.int q.1.2.1)) (fun r hr => hq r (List.mem_cons_of_mem _ hr)) (by rw [step_len]; exact hb)
    refine ⟨v5, v6, v7, v8, ?_⟩
    have hg : gIP (.tup [.int (q.2 : Nat), rd q.1]) (envS p dw pr beg b u5 u6 u7 u8) = .ok (envS p dw pr beg b (.fro (.int q.1.2.2)) (.fro (.int q.2)) (.fro (.int q.1.1)) (.fro (.int q.1.2.1))) := by simp [gIP, rd, envS]
    rw [List.map_cons, forL, hg, Res.bind_ok, bodyS_ok L hw hL (hq q (List.mem_cons_self ..)).1 hb (hq q (List.mem_cons_self ..)).2, Res.bind_ok]
    show forL gIP (bodyS L) _ _ = _
    rw [ih]; rfl
theorem zip_lt {rs : List Rd} : ∀ q ∈ rs.zipIdx, q.2 < rs.length := fun q hq => by
  have := List.mem_zipIdx_iff_getElem?.mp hq
  exact (List.getElem?_eq_some_iff.mp (by simpa using this)).1
/-- the rounds -/
theorem loopR {beg : Int} (L MR : Fm) (hw : dw = .tup (Li w) ∨ dw = .lst (Li w)) (hL : ∀ (b : Vs) (u v l : Int), 0 ≤ u → u < b.length → 0 ≤ v → v < b.length → L [.brw (.lst (b.map oD)), .fro (.int u), .fro (.int v), .fro (.int l)] = .ok (.fro .non, [.brw (.lst ((relax b u v l).map oD)), .un, .un, .un]))
    (hM : MR [.fro (.obj 0 p.ds)] = .ok (.fro (.tup (p.rs.map rd)), [.un])) (h : ∀ r ∈ p.rs, RdOk p.P r) (hp : pr.length = p.rs.length) : ∀ (ds : List D) (b : Vs) (u5 u6 u7 u8 : Cell), (b.length : Int) = p.P →
    ∃ v5 v6 v7 v8, forL (gN 5) (sFor gIP (iEnumD (aCons (oSelf 0 MR (eVar 0)) (aNil))) (bodyS L)) ds (envS p dw pr beg b u5 u6 u7 u8) = .ok (.nx, envS p dw pr beg (rounds (prd p.rs pr) w ds.length b) v5 v6 v7 v8)
  | [], b, u5, u6, u7, u8, _ => ⟨u5, u6, u7, u8, rfl⟩
  | d :: ds, b, u5, u6, u7, u8, hb => by
    obtain ⟨v5, v6, v7, v8, h1⟩ := loopS (p := p) (w := w) (pr := pr) (beg := beg) L hw hL p.rs.zipIdx b (.fro d) u6 u7 u8 (fun q hq => ⟨zip_ok h q hq, by rw [hp]; exact zip_lt q hq⟩) hb
    obtain ⟨x5, x6, x7, x8, ih⟩ := loopR L MR hw hL hM h hp ds (round (prd p.rs pr) w b) v5 v6 v7 v8 (by rw [round, fold_len]; exact hb)
    refine ⟨x5, x6, x7, x8, ?_⟩
    have hs : sFor gIP (iEnumD (aCons (oSelf 0 MR (eVar 0)) (aNil))) (bodyS L) (envS p dw pr beg b (.fro d) u6 u7 u8) = .ok (.nx, envS p dw pr beg (round (prd p.rs pr) w b) v5 v6 v7 v8) := by
      have e : (iEnumD (aCons (oSelf 0 MR (eVar 0)) (aNil))) (envS p dw pr beg b (.fro d) u6 u7 u8) = .ok (pairs (p.rs.map rd), envS p dw pr beg b (.fro d) u6 u7 u8) := by simp [envS, hM]
      rw [z_sFor, e, Res.bind_ok, pairs_map]
      unfold round
      rw [prd_zip]
      exact h1
    rw [forL, show gN 5 d (envS p dw pr beg b u5 u6 u7 u8) = .ok (envS p dw pr beg b (.fro d) u6 u7 u8) from rfl, Res.bind_ok, hs, Res.bind_ok]
    show forL (gN 5) _ ds _ = _
    rw [ih]; rfl
theorem rep_non : ∀ n : Nat, (List.replicate n [D.non]).flatten = (List.replicate n (none : Option Int)).map oD
  | 0 => rfl
  | n + 1 => by rw [List.replicate_succ, List.flatten_cons, rep_non n, List.replicate_succ]; rfl
theorem m_sums {beg : Int} (hw : dw = .tup (Li w) ∨ dw = .lst (Li w)) (hP : 2 ≤ p.P) (h6 : p.P ≤ 6) (h : ∀ r ∈ p.rs, RdOk p.P r) (b0 : 0 ≤ beg) (b1 : beg < p.P) (hp : pr.length = p.rs.length) :
    F_least_sums [.fro p.ch, .fro (.int beg), .fro dw, .fro (.lst (Li pr))] = .ok (.fro (.lst ((rounds (prd p.rs pr) w (p.P - 1).toNat (start0 p.P beg)).map oD)), [.un, .un, .un, .un]) := by
  have s0 : ((start0 p.P beg).length : Int) = p.P := by
    unfold start0
    rw [List.length_set, List.length_replicate]; omega
  have hr : oRep (.lst [.non]) (.int p.P) = .ok (.own (.lst ((List.replicate p.P.toNat none).map oD))) := by
    show (if -(2 ^ 63) ≤ p.P ∧ p.P < 2 ^ 63 ∧ [D.non].length * p.P.toNat ≤ sizeLine then _ else _) = _
    rw [if_pos ⟨by omega, by omega, (by show 1 * p.P.toNat ≤ sizeLine; rw [Nat.one_mul]; exact sl8 (show p.P.toNat ≤ 1000 by omega))⟩, rep_non]
  have hi : L2.ixN p.P.toNat beg = some beg.toNat := ixN_at b0 (by omega)
  have hz : (intsD 0 (p.P - 1).toNat).length = (p.P - 1).toNat := by unfold intsD; rw [List.length_map, List.length_range]
  obtain ⟨v5, v6, v7, v8, hl⟩ := loopR (p := p) (w := w) (pr := pr) (dw := dw) (beg := beg) F__lower F_Map_roads hw (fun b u v l u0 u1 v0 v1 => m_lower u0 u1 v0 v1) (m_roads p) h hp (intsD 0 (p.P - 1).toNat) (start0 p.P beg) .un .un .un .un s0
  rw [hz] at hl
  have hsm : small (p.P - 1) = true := by
    unfold small
    rw [Bool.and_eq_true]
    exact ⟨decide_eq_true (by omega), decide_eq_true (by omega)⟩
  have hset : ((List.replicate p.P.toNat (none : Option Int)).map oD).set beg.toNat (.int 0) = (start0 p.P beg).map oD := map_set_oD _ _ _
  have hir : ∀ ρ : Env, ρ[0]? = some (.fro (.obj 0 p.ds)) → iRange1 (aCons (e2 oSub (oSelf 0 F_Map_places (eVar 0)) (eC (.int 1))) aNil) ρ = .ok (intsD 0 (p.P - 1).toNat, ρ) := fun ρ h0 => by
    unfold iRange1
    simp [h0, hsm]
  have sz : 1 ≤ sizeLine := by decide
  have e1 : sSet 4 (e2 oRep (eLst (aCons (eC .non) (aNil))) (oSelf 0 F_Map_places (eVar 0))) [.fro (.obj 0 p.ds), .fro (.int beg), .fro dw, .fro (.lst (Li pr)), .un, .un, .un, .un, .un] = .ok (.nx, [.fro (.obj 0 p.ds), .fro (.int beg), .fro dw, .fro (.lst (Li pr)), .own (.lst ((List.replicate p.P.toNat none).map oD)), .un, .un, .un, .un]) := by
    simp [sz, hr]
  have e2' : sSetIx 4 (eUse 1) (eC (.int 0)) [.fro (.obj 0 p.ds), .fro (.int beg), .fro dw, .fro (.lst (Li pr)), .own (.lst ((List.replicate p.P.toNat none).map oD)), .un, .un, .un, .un] = .ok (.nx, envS p dw pr beg (start0 p.P beg) .un .un .un .un) := by
    simp only [z_sSetIx, putL, isL, Cell.mut, Cell.dat, Cell.put, envS]
    simp [hi]
    simpa using hset
  have e3 : sFor (gN 5) (iRange1 (aCons (e2 oSub (oSelf 0 F_Map_places (eVar 0)) (eC (.int 1))) aNil)) (sFor gIP (iEnumD (aCons (oSelf 0 F_Map_roads (eVar 0)) (aNil))) (bodyS F__lower)) (envS p dw pr beg (start0 p.P beg) .un .un .un .un) = .ok (.nx, envS p dw pr beg (rounds (prd p.rs pr) w (p.P - 1).toNat (start0 p.P beg)) v5 v6 v7 v8) := by
    rw [z_sFor, hir _ rfl, Res.bind_ok]
    exact hl
  have key : (sCons (sSet 4 (e2 oRep (eLst (aCons (eC .non) (aNil))) (oSelf 0 F_Map_places (eVar 0)))) (sCons (sSetIx 4 (eUse 1) (eC (.int 0))) (sCons (sFor (gN 5) (iRange1 (aCons (e2 oSub (oSelf 0 F_Map_places (eVar 0)) (eC (.int 1))) aNil)) (sFor gIP (iEnumD (aCons (oSelf 0 F_Map_roads (eVar 0)) (aNil))) (bodyS F__lower))) (sRet (eVar 4))))) [.fro (.obj 0 p.ds), .fro (.int beg), .fro dw, .fro (.lst (Li pr)), .un, .un, .un, .un, .un]
      = .ok (.ret (.fro (.lst ((rounds (prd p.rs pr) w (p.P - 1).toNat (start0 p.P beg)).map oD))), (envS p dw pr beg (rounds (prd p.rs pr) w (p.P - 1).toNat (start0 p.P beg)) v5 v6 v7 v8).set 4 (.fro (.lst ((rounds (prd p.rs pr) w (p.P - 1).toNat (start0 p.P beg)).map oD)))) := by
    rw [z_sCons, e1, Res.bind_ok]
    show (sCons _ _) _ = _
    rw [z_sCons, e2', Res.bind_ok]
    show (sCons _ _) _ = _
    rw [z_sCons, e3, Res.bind_ok]
    rfl
  exact runF_fro (n := 4) (m := 5) (cs := [.fro p.ch, .fro (.int beg), .fro dw, .fro (.lst (Li pr))]) key rfl rfl (by show 4 ≤ 9; decide)
theorem m_lens (h8 : p.rs.length ≤ 8) : F_road_lengths [.fro p.ch] = .ok (.own (.lst (Li (lens p.rs))), [.un]) := by
  have hl : lcL (gT 3 (gsCons (gN 1) (gsCons (gN 1) (gsCons (gN 2) (gsNil))))) [1, 2] bYes (eVar 2) (p.rs.map rd) [.fro (.obj 0 p.ds), .un, .un] [] = .ok (Li (lens p.rs), [.fro (.obj 0 p.ds), .un, .un]) := by
    rw [lcL_map (fun _ => true) (fun d => match d with | .tup [_, _, .int l] => .int l | _ => .non) (fun d hd => ?_) (by simp; exact sl8 (by omega))]
    · rw [List.filter_eq_self.mpr fun _ _ => rfl, List.map_map]
      unfold Li lens
      rw [List.map_map]; rfl
    · obtain ⟨r, hr, rfl⟩ := List.mem_map.mp hd
      exact ⟨[.fro (.obj 0 p.ds), .fro (.int r.2.1), .fro (.int r.2.2)], [.fro (.obj 0 p.ds), .fro (.int r.2.1), .fro (.int r.2.2)], by simp [rd], rfl, fun h => absurd h (by simp), fun _ => ⟨.fro (.int r.2.2), [.fro (.obj 0 p.ds), .fro (.int r.2.1), .fro (.int r.2.2)], by simp, rfl, rfl⟩⟩
  simp only [ch_def, Li] at hl ⊢
  simp [F_road_lengths, hl]
theorem lens_len (rs : List Rd) : (lens rs).length = rs.length := by unfold lens; rw [List.length_map]
end

end Dt
end

section
set_option Elab.async false
set_option linter.all false
set_option maxRecDepth 100000
set_option maxHeartbeats 4000000
set_option autoImplicit false
namespace Dt
open PySem PySem.Spec PyProof.Rows L2

/-! ### the program's states in a world -/
def shutAt (rs : List Rd) (W : List Int) (x : Int) (c s : List Int) : List Int := (fresh rs x c s).filter fun r => W.contains r
def arrC (rs : List Rd) (W : List Int) (x : Int) (c s : List Int) : List Int := srt (c ++ rest (fresh rs x c s) (shutAt rs W x c s))
def arrS (rs : List Rd) (W : List Int) (x : Int) (c s : List Int) : List Int := srt (s ++ shutAt rs W x c s)
section
variable {p : Pl} {W : List Int} {x : Int} {c s : List Int}
theorem w_arr {ch st : D} {f k : List Int} (U S : Fm) (hU : U [.fro ch, .fro (.int x), .fro (.tup (Li c)), .fro (.tup (Li s))] = .ok (.own (.lst (Li f)), [.un, .un, .un, .un])) (hf : f.length ≤ 8)
    (hk : k = f.filter fun r => W.contains r) (hS : S [.fro (.int x), .fro (.tup (Li c)), .fro (.tup (Li s)), .fro (.lst (Li f)), .fro (.lst (Li k))] = .ok (.fro st, [.un, .un, .un, .un, .un])) :
    (runF 5 2 (sCons (sSet 5 (eCall U (aCons (eVar 0) (aCons (eVar 2) (aCons (eVar 3) (aCons (eVar 4) (aNil))))))) (sRet (eCall S (aCons (eVar 2) (aCons (eVar 3) (aCons (eVar 4) (aCons (eVar 5) (aCons (eLc (gN 6) [6] (iData (eVar 5)) (bB (e2 (oIn false) (eUse 6) (eUse 1))) (eVar 6)) (aNil)))))))))) [.fro ch, .fro (.tup (Li W)), .fro (.int x), .fro (.tup (Li c)), .fro (.tup (Li s))] = .ok (.fro st, [.un, .un, .un, .un, .un]) := by
  subst hk
  have hl : lcL (gN 6) [6] (bB (e2 (oIn false) (eUse 6) (eUse 1))) (eVar 6) (f.map D.int) [.fro ch, .fro (.tup (Li W)), .fro (.int x), .fro (.tup (Li c)), .fro (.tup (Li s)), .fro (.lst (Li f)), .un] []
      = .ok ((f.filter fun r => W.contains r).map D.int, [.fro ch, .fro (.tup (Li W)), .fro (.int x), .fro (.tup (Li c)), .fro (.tup (Li s)), .fro (.lst (Li f)), .un]) :=
    lc_ints (fun r => W.contains r) (fun r hr => by simp) rfl (sl8 (by omega))
  simp only [Li, List.contains_eq_mem] at hU hS hl ⊢
  simp [hU, hS, hl]
theorem at8 (h : p.Gd) : (atR p.rs x).length ≤ 8 := by have := (at_in p.rs x).len (at_asc p.rs x); have := h.r8; omega
theorem m_arrival_in (h : p.Gd) (hc : c.length ≤ 8) (hs : s.length ≤ 8) : F__arrival_in [.fro p.ch, .fro (.tup (Li W)), .fro (.int x), .fro (.tup (Li c)), .fro (.tup (Li s))] = .ok (.fro (stD x (arrC p.rs W x c s) (arrS p.rs W x c s)), [.un, .un, .un, .un, .un]) := by
  have hff : (fresh p.rs x c s).length ≤ 8 := Nat.le_trans (List.length_filter_le _ _) (at8 h)
  exact w_arr F__unknown_at F__state_at (m_unknown h.r8 (at8 h)) hff rfl (m_state_at (k := shutAt p.rs W x c s) (.inr rfl) hc hs hff (Nat.le_trans (List.length_filter_le _ _) hff))
theorem w_first {ch st : D} {b g : Int} (A : Fm) (E : EF) (hE : E [.fro ch, .fro (.tup (Li W))] = .ok (.fro (.tup [.int b, .int g]), [.fro ch, .fro (.tup (Li W))])) (hA : A [.fro ch, .fro (.tup (Li W)), .fro (.int b), .fro (.tup []), .fro (.tup [])] = .ok (.fro st, [.un, .un, .un, .un, .un])) :
    (runF 2 0 (sRet (eCall A (aCons (eVar 0) (aCons (eVar 1) (aCons (e2 oIx E (eC (.int 0))) (aCons (eTup (aNil)) (aCons (eTup (aNil)) (aNil))))))))) [.fro ch, .fro (.tup (Li W))] = .ok (.fro st, [.un, .un]) := by
  have hx : oIx (.tup [.int b, .int g]) (.int 0) = .ok (.fro (.int b)) := rfl
  have z0 : 0 ≤ sizeLine := Nat.zero_le _
  simp [hE, hA, hx, z0]
theorem ends_of {i : Nat} {ρ : Env} (h : ρ[i]? = some (.fro (.obj 0 p.ds))) : oSelf 0 F_Map_ends (eVar i) ρ = .ok (.fro (.tup [.int p.b, .int p.g]), ρ) := by
  rw [z_oSelf, z_eVar, h]
  simp only [Res.bind_ok, m_ends_, beq_self_eq_true, Res.need_true, z_made_fro]
theorem m_first_in (h : p.Gd) : F_first_state_in [.fro p.ch, .fro (.tup (Li W))] = .ok (.fro (stD p.b (arrC p.rs W p.b [] []) (arrS p.rs W p.b [] [])), [.un, .un]) :=
  w_first F__arrival_in _ (ends_of (p := p) rfl) (m_arrival_in (c := []) (s := []) h (Nat.zero_le _) (Nat.zero_le _))
theorem w_after {ch st : D} {r y : Int} (A O : Fm) (hO : O [.fro ch, .fro (.int r), .fro (.int x)] = .ok (.fro (.int y), [.un, .un, .un])) (hA : A [.fro ch, .fro (.tup (Li W)), .fro (.int y), .fro (.tup (Li c)), .fro (.tup (Li s))] = .ok (.fro st, [.un, .un, .un, .un, .un])) :
    (runF 4 3 (sCons (sAsg (gT 3 (gsCons (gN 4) (gsCons (gN 5) (gsCons (gN 6) (gsNil))))) (eVar 2)) (sRet (eCall A (aCons (eVar 0) (aCons (eVar 1) (aCons (eCall O (aCons (eVar 0) (aCons (eVar 3) (aCons (eVar 4) (aNil))))) (aCons (eVar 5) (aCons (eVar 6) (aNil)))))))))) [.fro ch, .fro (.tup (Li W)), .fro (stD x c s), .fro (.int r)] = .ok (.fro st, [.un, .un, .un, .un]) := by
  simp only [stD] at *
  simp [hO, hA]
theorem other_ovr {r : Int} (hr : r ∈ atR p.rs x) : F_other_end [.fro p.ch, .fro (.int r), .fro (.int x)] = .ok (.fro (.int (ovr p.rs r x)), [.un, .un, .un]) := by
  obtain ⟨i, q, rfl, h1, h2⟩ := at_mem.mp hr
  have e : ovr p.rs (i : Int) x = otherEnd q x := by
    unfold ovr otherEnd
    rw [Int.toNat_natCast, h1]
    dsimp only
    split <;> omega
  rw [e]
  exact m_other h1
theorem m_after_in (h : p.Gd) (hc : c.length ≤ 8) (hs : s.length ≤ 8) {r : Int} (hr : r ∈ atR p.rs x) : F_state_after_in [.fro p.ch, .fro (.tup (Li W)), .fro (stD x c s), .fro (.int r)] = .ok (.fro (stD (ovr p.rs r x) (arrC p.rs W (ovr p.rs r x) c s) (arrS p.rs W (ovr p.rs r x) c s)), [.un, .un, .un, .un]) :=
  w_after F__arrival_in F_other_end (other_ovr hr) (m_arrival_in h hc hs)
theorem w_goal {ch st : D} {b g : Int} (E : EF) (hE : E [.fro ch, .fro st] = .ok (.fro (.tup [.int b, .int g]), [.fro ch, .fro st])) (hst : oIx st (.int 0) = .ok (.fro (.int x))) :
    (runF 2 0 (sRet (e2 oEq (e2 oIx (eUse 1) (eC (.int 0))) (e2 oIx E (eC (.int 1)))))) [.fro ch, .fro st] = .ok (.fro (.bl (x == g)), [.un, .un]) := by
  have hx : oIx (.tup [.int b, .int g]) (.int 1) = .ok (.fro (.int g)) := rfl
  simp [hE, hst, hx]
theorem m_goal : F_is_at_goal [.fro p.ch, .fro (stD x c s)] = .ok (.fro (.bl (x == p.g)), [.un, .un]) := w_goal _ (ends_of (p := p) rfl) rfl

/-! ### they know what the law's walker knows -/
structure Knows (n : Nat) (W : List Int) (t : List Int × List Int) (c s : List Int) : Prop where
  c1 : ∀ r, r ∈ c ↔ r ∈ t.1
  s1 : ∀ r, r ∈ s ↔ r ∈ t.2
  nc : c.Nodup
  ns : s.Nodup
  S : Sees n W t
theorem mem_seeR {r a : Int} {t : List Int × List Int} : (a ∈ (seeR W t r).1 ↔ a ∈ t.1 ∨ (a = r ∧ r ∉ W)) ∧ (a ∈ (seeR W t r).2 ↔ a ∈ t.2 ∨ (a = r ∧ r ∈ W)) := by
  unfold seeR
  by_cases h1 : r ∈ W <;> by_cases h2 : r ∈ t.2 <;> by_cases h3 : r ∈ t.1 <;> simp [h1, h2, h3] <;> (intro e; subst e; assumption)
theorem mem_fold {a : Int} : ∀ (l : List Int) (t : List Int × List Int), (a ∈ (l.foldl (seeR W) t).1 ↔ a ∈ t.1 ∨ (a ∈ l ∧ a ∉ W)) ∧ (a ∈ (l.foldl (seeR W) t).2 ↔ a ∈ t.2 ∨ (a ∈ l ∧ a ∈ W))
  | [], t => by simp
  | r :: l, t => by
    rw [List.foldl_cons, (mem_fold l _).1, (mem_fold l _).2, mem_seeR.1, mem_seeR.2, List.mem_cons]
    constructor
    · constructor
      · rintro ((h | ⟨rfl, h⟩) | ⟨h1, h2⟩)
        · exact .inl h
        · exact .inr ⟨.inl rfl, h⟩
        · exact .inr ⟨.inr h1, h2⟩
      · rintro (h | ⟨rfl | h1, h2⟩)
        · exact .inl (.inl h)
        · exact .inl (.inr ⟨rfl, h2⟩)
        · exact .inr ⟨h1, h2⟩
    · constructor
      · rintro ((h | ⟨rfl, h⟩) | ⟨h1, h2⟩)
        · exact .inl h
        · exact .inr ⟨.inl rfl, h⟩
        · exact .inr ⟨.inr h1, h2⟩
      · rintro (h | ⟨rfl | h1, h2⟩)
        · exact .inl (.inl h)
        · exact .inl (.inr ⟨rfl, h2⟩)
        · exact .inr ⟨h1, h2⟩
theorem fresh_iff {r : Int} : r ∈ fresh p.rs x c s ↔ r ∈ atR p.rs x ∧ r ∉ c ∧ r ∉ s := by
  unfold fresh
  rw [List.mem_filter]
  simp
theorem nodup_of_filter {l : List Int} (f : Int → Bool) (h : l.Nodup) : (l.filter f).Nodup := List.Pairwise.filter _ h
theorem Knows.step {t : List Int × List Int} (K : Knows p.rs.length W t c s) (x : Int) : Knows p.rs.length W (see p.rs W x t) (arrC p.rs W x c s) (arrS p.rs W x c s) := by
  have hW : ∀ r, r ∈ c → r ∉ W := fun r hr => (K.S.f r ((K.c1 r).mp hr)).1
  have hV : ∀ r, r ∈ s → r ∈ W := fun r hr => (K.S.c r ((K.s1 r).mp hr)).1
  have nf : (fresh p.rs x c s).Nodup := nodup_of_filter _ (asc_nodup (at_asc p.rs x))
  refine ⟨fun r => ?_, fun r => ?_, ?_, ?_, (sees_at K.S).1⟩
  · unfold arrC
    rw [srt_mem, List.mem_append]
    unfold rest shutAt
    rw [List.mem_filter]
    unfold see
    rw [(mem_fold _ _).1, ← K.c1]
    simp only [List.contains_eq_mem, Bool.not_eq_true', decide_eq_false_iff_not, List.mem_filter, fresh_iff, decide_eq_true_eq]
    constructor
    · rintro (h | ⟨⟨h1, h2, h3⟩, h4⟩)
      · exact .inl h
      · exact .inr ⟨h1, fun z => h4 ⟨⟨h1, h2, h3⟩, z⟩⟩
    · rintro (h | ⟨h1, h2⟩)
      · exact .inl h
      · by_cases hc : r ∈ c
        · exact .inl hc
        · exact .inr ⟨⟨h1, hc, fun z => h2 (hV r z)⟩, fun z => h2 z.2⟩
  · unfold arrS
    rw [srt_mem, List.mem_append]
    unfold shutAt
    unfold see
    rw [(mem_fold _ _).2, ← K.s1]
    simp only [List.contains_eq_mem, List.mem_filter, fresh_iff, decide_eq_true_eq]
    constructor
    · rintro (h | ⟨⟨h1, h2, h3⟩, h4⟩)
      · exact .inl h
      · exact .inr ⟨h1, h4⟩
    · rintro (h | ⟨h1, h2⟩)
      · exact .inl h
      · by_cases hs : r ∈ s
        · exact .inl hs
        · exact .inr ⟨⟨h1, fun z => hW r z h2, hs⟩, h2⟩
  · refine srt_nodup (List.nodup_append.mpr ⟨K.nc, nodup_of_filter _ nf, fun a ha b hb e => ?_⟩)
    subst e
    exact (fresh_iff.mp (List.mem_filter.mp hb).1).2.1 ha
  · refine srt_nodup (List.nodup_append.mpr ⟨K.ns, nodup_of_filter _ nf, fun a ha b hb e => ?_⟩)
    subst e
    exact (fresh_iff.mp (List.mem_filter.mp hb).1).2.2 ha
theorem Knows.nil : Knows p.rs.length W ([], []) [] [] := ⟨fun r => Iff.rfl, fun r => Iff.rfl, List.nodup_nil, List.nodup_nil, .nil _ _⟩
theorem Knows.len {n : Nat} {t : List Int × List Int} (K : Knows n W t c s) (h8 : n ≤ 8) : c.length ≤ 8 ∧ s.length ≤ 8 := by
  obtain ⟨a, b⟩ := K.S.few h8
  exact ⟨Nat.le_trans (sub_len K.nc fun r hr => (K.c1 r).mp hr) a, Nat.le_trans (sub_len K.ns fun r hr => (K.s1 r).mp hr) b⟩
theorem contains_same {a b : List Int} (h : ∀ r, r ∈ a ↔ r ∈ b) (r : Int) : a.contains r = b.contains r := by
  rw [Bool.eq_iff_iff, List.contains_iff_mem, List.contains_iff_mem]
  exact h r
theorem rows_same {q : Pl} {w w' f f' : List Int} (hw : ∀ r, r ∈ w ↔ r ∈ w') (hf : ∀ r, r ∈ f ↔ r ∈ f') (x : Int) : rowsW q w f x = rowsW q w' f' x := by
  unfold rowsW restW
  congr 1
  funext r
  rw [contains_same hf r, lenTo_same hw]
theorem compl_same {n : Nat} {f f' : List Int} (hf : ∀ r, r ∈ f ↔ r ∈ f') : compl n f = compl n f' := by
  unfold compl
  congr 1
  funext r
  rw [contains_same hf r]
theorem choice_same {ru : Ru} {f f' w w' : List Int} (hf : ∀ r, r ∈ f ↔ r ∈ f') (hw : ∀ r, r ∈ w ↔ r ∈ w') : choice p f w ru x = choice p f' w' ru x := by
  cases ru with
  | near => unfold choice choose; dsimp only; rw [rows_same hw hf]
  | few => unfold choice choose; dsimp only; rw [rows_same hw hf]
  | known =>
    unfold choice choose
    dsimp only
    rw [compl_same hf, rows_same hw hf, rows_same (fun _ => Iff.rfl) hf]
end
end Dt
end

section
set_option Elab.async false
set_option linter.all false
set_option maxRecDepth 100000
set_option maxHeartbeats 4000000
set_option autoImplicit false
namespace Dt
open PySem PySem.Spec PyProof.Rows L2

/-! ### the program's best road -/
section
variable {p : Pl} {x : Int} {c s w pr : List Int} {b : Vs} {dw : D}
def bodyR (O : Fm) : SF := sCons (sSet 7 (e2 oIx (eUse 4) (eCall O (aCons (eVar 0) (aCons (eVar 6) (aCons (e2 oIx (eUse 1) (eC (.int 0))) (aNil))))))) (sIf (bB (e2 oNotN (eUse 7) (eC .non))) (sApp 5 (eTup (aCons (e2 oCat (e2 oIx (eUse 3) (eUse 6)) (eUse 7)) (aCons (eVar 6) (aNil))))) (sNil))
def envR (ch : D) (x : Int) (c s : List Int) (dw : D) (pr : List Int) (b : Vs) (acc : List (Int × Int)) (u6 u7 : Cell) : Env := [.fro ch, .fro (stD x c s), .fro dw, .fro (.lst (Li pr)), .fro (.lst (b.map oD)), .own (.lst (acc.map rowD)), u6, u7]
theorem bodyR_ok {ch : D} {acc : List (Int × Int)} {r y l : Int} {o : Option Int} {u7 : Cell} (O : Fm) (hO : O [.fro ch, .fro (.int r), .fro (.int x)] = .ok (.fro (.int y), [.un, .un, .un])) (hb : oIx (.lst (b.map oD)) (.int y) = .ok (.fro (oD o))) (hp : oIx (.lst (Li pr)) (.int r) = .ok (.fro (.int l))) (ha : acc.length ≤ 8) :
    ∃ v7, bodyR O (envR ch x c s dw pr b acc (.fro (.int r)) u7) = .ok (.nx, envR ch x c s dw pr b (acc ++ (o.map fun z => (l + z, r)).toList) (.fro (.int r)) v7) := by
  have s2 : 2 ≤ sizeLine := by decide
  have hx : oIx (stD x c s) (.int 0) = .ok (.fro (.int x)) := rfl
  have l1 : acc.length < sizeLine := Nat.lt_of_le_of_lt ha (by decide)
  have l2 : (acc.map rowD).length < sizeLine := by rw [List.length_map]; exact l1
  cases o with
  | none =>
    refine ⟨.fro .non, ?_⟩
    simp only [oD] at hb
    simp [bodyR, envR, hx, hO, hb, D.isN]
  | some z =>
    refine ⟨.fro (.int z), ?_⟩
    simp only [oD] at hb
    simp only [Li] at hp
    simp [bodyR, envR, hx, hO, hb, hp, s2, l1, D.isN, z_sApp, isL, putL, Cell.mut, Cell.dat, Cell.put, rowD]
def rowsB (q : Pl) (w pr : List Int) (x : Int) (l : List Int) : List (Int × Int) := l.filterMap fun r => (lenTo q w (ovr q.rs r x)).map fun z => (pr.getD r.toNat 0 + z, r)
theorem rowsB_cons (q : Pl) (r : Int) (l : List Int) : rowsB q w pr x (r :: l) = ((lenTo q w (ovr q.rs r x)).map fun z => (pr.getD r.toNat 0 + z, r)).toList ++ rowsB q w pr x l := by
  unfold rowsB
  rw [List.filterMap_cons]
  cases lenTo q w (ovr q.rs r x) <;> rfl
theorem loopR2 {q : Pl} {ch : D} (O : Fm) (hO : ∀ r ∈ atR p.rs x, O [.fro ch, .fro (.int r), .fro (.int x)] = .ok (.fro (.int (ovr q.rs r x)), [.un, .un, .un])) (hb : ∀ r ∈ atR p.rs x, oIx (.lst (b.map oD)) (.int (ovr q.rs r x)) = .ok (.fro (oD (lenTo q w (ovr q.rs r x))))) (hp : ∀ r ∈ atR p.rs x, oIx (.lst (Li pr)) (.int r) = .ok (.fro (.int (pr.getD r.toNat 0)))) :
    ∀ (l : List Int) (acc : List (Int × Int)) (u6 u7 : Cell), (∀ r ∈ l, r ∈ atR p.rs x) → acc.length + l.length ≤ 8 →
    ∃ v6 v7, forL (gN 6) (bodyR O) (Li l) (envR ch x c s dw pr b acc u6 u7) = .ok (.nx, envR ch x c s dw pr b (acc ++ rowsB q w pr x l) v6 v7)
  | [], acc, u6, u7, _, _ => ⟨u6, u7, by show Res.ok _ = _; unfold rowsB; simp⟩
  | r :: l, acc, u6, u7, hl, hn => by
    rw [List.length_cons] at hn
    have hr := hl r (List.mem_cons_self ..)
    obtain ⟨v7, s1⟩ := bodyR_ok (c := c) (s := s) (dw := dw) (acc := acc) (u7 := u7) O (hO r hr) (hb r hr) (hp r hr) (by omega)
    have ln : ((lenTo q w (ovr q.rs r x)).map fun z => (pr.getD r.toNat 0 + z, r)).toList.length ≤ 1 := by cases lenTo q w (ovr q.rs r x) <;> simp
    obtain ⟨w6, w7, ih⟩ := loopR2 O hO hb hp l (acc ++ ((lenTo q w (ovr q.rs r x)).map fun z => (pr.getD r.toNat 0 + z, r)).toList) (.fro (.int r)) v7 (fun a ha => hl a (List.mem_cons_of_mem _ ha)) (by rw [List.length_append]; omega)
    refine ⟨w6, w7, ?_⟩
    have hg : gN 6 (.int r) (envR ch x c s dw pr b acc u6 u7) = .ok (envR ch x c s dw pr b acc (.fro (.int r)) u7) := rfl
    show forL (gN 6) _ (.int r :: Li l) _ = _
    rw [forL, hg, Res.bind_ok, s1, Res.bind_ok]
    show forL (gN 6) _ (Li l) _ = _
    rw [ih, rowsB_cons, List.append_assoc]
def tailR : SF := sRet (eIf (bT (eUse 5)) (e2 oIx (eCB (c1 oMinAny) (aCons (eUse 5) (aNil))) (eC (.int 1))) (eC .non))
theorem tailR_ok {ch : D} {acc : List (Int × Int)} {u6 u7 : Cell} : tailR (envR ch x c s dw pr b acc u6 u7) = .ok (.ret (.fro (oD ((minRow acc).map (·.2)))), envR ch x c s dw pr b acc u6 u7) := by
  have ht : D.tru (.lst (acc.map rowD)) = some (!acc.isEmpty) := by
    show some (!(acc.map rowD).isEmpty) = _
    cases acc <;> rfl
  cases h : minRow acc with
  | none =>
    have e := minRow_none h
    subst e
    simp [tailR, envR, bT, D.tru, oD]
  | some a =>
    have m := min_rows h
    have ne : acc.isEmpty = false := by
      cases acc with
      | nil => cases h
      | cons _ _ => rfl
    rw [ne] at ht
    have e1 : oIx (rowD a) (.int 1) = .ok (.fro (.int a.2)) := rfl
    simp [tailR, envR, bT, ht, m, e1, oD]
def bestBody (LS OR O : Fm) (E : EF) : SF := sCons (sSet 4 (eCall LS (aCons (eVar 0) (aCons (e2 oIx E (eC (.int 1))) (aCons (eVar 2) (aCons (eVar 3) (aNil))))))) (sCons (sSet 5 (eLst (aNil))) (sCons (sFor (gN 6) (iData (eCall OR (aCons (eVar 0) (aCons (eVar 1) (aNil))))) (bodyR O)) tailR))
theorem best_is : F__best_road = runF 4 4 (bestBody F_least_sums F_open_roads F_other_end (oSelf 0 F_Map_ends (eVar 0))) := rfl
theorem best_run {ch : D} {l : List Int} {rows : List (Int × Int)} {bb g : Int} {v6 v7 : Cell} (LS OR O : Fm) (E : EF) (hE : E [.fro ch, .fro (stD x c s), .fro dw, .fro (.lst (Li pr)), .un, .un, .un, .un] = .ok (.fro (.tup [.int bb, .int g]), [.fro ch, .fro (stD x c s), .fro dw, .fro (.lst (Li pr)), .un, .un, .un, .un]))
    (hLS : LS [.fro ch, .fro (.int g), .fro dw, .fro (.lst (Li pr))] = .ok (.fro (.lst (b.map oD)), [.un, .un, .un, .un])) (hOR : OR [.fro ch, .fro (stD x c s)] = .ok (.own (.lst (Li l)), [.un, .un]))
    (hl : forL (gN 6) (bodyR O) (Li l) (envR ch x c s dw pr b [] .un .un) = .ok (.nx, envR ch x c s dw pr b rows v6 v7)) :
    runF 4 4 (bestBody LS OR O E) [.fro ch, .fro (stD x c s), .fro dw, .fro (.lst (Li pr))] = .ok (.fro (oD ((minRow rows).map (·.2))), [.un, .un, .un, .un]) := by
  have s0 : 0 ≤ sizeLine := Nat.zero_le _
  have hx : oIx (.tup [.int bb, .int g]) (.int 1) = .ok (.fro (.int g)) := rfl
  have e0 : sSet 4 (eCall LS (aCons (eVar 0) (aCons (e2 oIx E (eC (.int 1))) (aCons (eVar 2) (aCons (eVar 3) (aNil)))))) [.fro ch, .fro (stD x c s), .fro dw, .fro (.lst (Li pr)), .un, .un, .un, .un] = .ok (.nx, [.fro ch, .fro (stD x c s), .fro dw, .fro (.lst (Li pr)), .fro (.lst (b.map oD)), .un, .un, .un]) := by simp [hE, hx, hLS]
  have e1 : sSet 5 (eLst (aNil)) [.fro ch, .fro (stD x c s), .fro dw, .fro (.lst (Li pr)), .fro (.lst (b.map oD)), .un, .un, .un] = .ok (.nx, envR ch x c s dw pr b [] .un .un) := by simp [envR, s0]
  have e2' : (iData (eCall OR (aCons (eVar 0) (aCons (eVar 1) (aNil))))) (envR ch x c s dw pr b [] .un .un) = .ok (Li l, envR ch x c s dw pr b [] .un .un) := by simp [envR, hOR]
  have key : bestBody LS OR O E [.fro ch, .fro (stD x c s), .fro dw, .fro (.lst (Li pr)), .un, .un, .un, .un] = .ok (.ret (.fro (oD ((minRow rows).map (·.2)))), envR ch x c s dw pr b rows v6 v7) := by
    rw [bestBody, z_sCons, e0, Res.bind_ok]
    show sCons _ _ _ = _
    rw [z_sCons, e1, Res.bind_ok]
    show sCons _ _ _ = _
    rw [z_sCons, z_sFor, e2', Res.bind_ok, hl, Res.bind_ok]
    show tailR _ = _
    rw [tailR_ok]
  exact runF_fro (n := 4) (m := 4) (cs := [.fro ch, .fro (stD x c s), .fro dw, .fro (.lst (Li pr))]) key rfl rfl (by show 4 ≤ 8; decide)
theorem fm_congr {α β : Type} {f g : α → Option β} : ∀ {l : List α}, (∀ a ∈ l, f a = g a) → l.filterMap f = l.filterMap g
  | [], _ => rfl
  | a :: l, h => by rw [List.filterMap_cons, List.filterMap_cons, h a (List.mem_cons_self ..), fm_congr fun b hb => h b (List.mem_cons_of_mem _ hb)]
/-- the map with these lengths is that one -/
structure Same1 (p q : Pl) (pr : List Int) : Prop where
  gd : q.Gd
  P : q.P = p.P
  g : q.g = p.g
  rs : q.rs = prd p.rs pr
  at_ : ∀ x, atR q.rs x = atR p.rs x
  ov : ∀ r x, ovr q.rs r x = ovr p.rs r x
  ln : ∀ i : Nat, i < p.rs.length → lenR q.rs (i : Int) = pr.getD i 0
  len : pr.length = p.rs.length
theorem same_lens (h : p.Gd) : Same1 p p (lens p.rs) := ⟨h, rfl, rfl, (prd_lens _).symm, fun _ => rfl, fun _ _ => rfl, fun i hi => by
  rw [lenR_at (List.getElem?_eq_getElem hi)]
  unfold lens
  simp [List.getD_eq_getElem?_getD, hi], lens_len _⟩
theorem same_ones (h : p.Gd) : Same1 p p.ones (List.replicate p.rs.length 1) := ⟨h.ones, rfl, rfl, by
    unfold prd Pl.ones
    apply List.ext_getElem?
    intro i
    simp only [List.getElem?_map, List.getElem?_zipIdx, Nat.zero_add]
    cases e : p.rs[i]? with
    | none => rfl
    | some r =>
      have := (List.getElem?_eq_some_iff.mp e).1
      simp [List.getD_eq_getElem?_getD, this],
  fun x => atR_ones p.rs x, fun r x => ovr_ones p.rs r x, fun i hi => by
    rw [lenR_one (List.getElem?_eq_getElem hi)]
    simp [List.getD_eq_getElem?_getD, hi], List.length_replicate ..⟩
theorem m_best {q : Pl} (h : p.Gd) (S : Same1 p q pr) (hw : dw = .tup (Li w) ∨ dw = .lst (Li w)) : F__best_road [.fro p.ch, .fro (stD x c s), .fro dw, .fro (.lst (Li pr))] = .ok (.fro (oD (choose q w c x)), [.un, .un, .un, .un]) := by
  have hLS := m_sums (p := p) (w := w) (pr := pr) (dw := dw) (beg := p.g) hw h.P2 h.P6 h.rd h.g0 h.gP S.len
  have hsz : ((rounds (prd p.rs pr) w (p.P - 1).toNat (start0 p.P p.g)).length : Int) = p.P := by
    rw [rounds_len]
    unfold start0
    rw [List.length_set, List.length_replicate]
    have := h.P2; omega
  have hb : ∀ r ∈ atR p.rs x, oIx (.lst ((rounds (prd p.rs pr) w (p.P - 1).toNat (start0 p.P p.g)).map oD)) (.int (ovr q.rs r x)) = .ok (.fro (oD (lenTo q w (ovr q.rs r x)))) := fun r hr => by
    obtain ⟨y0, yP, _⟩ := ovr_in h hr
    rw [S.ov]
    have e : gt (rounds (prd p.rs pr) w (p.P - 1).toNat (start0 p.P p.g)) (ovr p.rs r x) = lenTo q w (ovr p.rs r x) := by
      have f := lenTo_flip (p := q) (w := w) (x := ovr p.rs r x) S.gd.P2 S.gd.rd y0 (by rw [S.P]; exact yP) S.gd.g0 S.gd.gP
      rw [← f]
      unfold lenTo
      dsimp only
      rw [S.P, S.rs, S.g]
    rw [ix_at y0 (by omega), e]
  have hp : ∀ r ∈ atR p.rs x, oIx (.lst (Li pr)) (.int r) = .ok (.fro (.int (pr.getD r.toNat 0))) := fun r hr => by
    obtain ⟨i, a, rfl, h1, _⟩ := at_mem.mp hr
    have hi := (List.getElem?_eq_some_iff.mp h1).1
    rw [Int.toNat_natCast]
    exact ix_li (by rw [S.len]; exact hi)
  have hO : ∀ r ∈ atR p.rs x, F_other_end [.fro p.ch, .fro (.int r), .fro (.int x)] = .ok (.fro (.int (ovr q.rs r x)), [.un, .un, .un]) := fun r hr => by
    rw [S.ov]; exact other_ovr hr
  obtain ⟨v6, v7, hl⟩ := loopR2 (p := p) (q := q) (ch := p.ch) (c := c) (s := s) (w := w) (dw := dw) F_other_end hO hb hp (waysOf p.rs x c) [] .un .un (fun r hr => (List.mem_filter.mp hr).1) (by
    have := List.length_filter_le (fun r => c.contains r) (atR p.rs x)
    have := at8 (x := x) h
    unfold waysOf
    simp only [List.length_nil]; omega)
  have R := best_run (l := waysOf p.rs x c) F_least_sums F_open_roads F_other_end (oSelf 0 F_Map_ends (eVar 0)) (ends_of (p := p) rfl) hLS (m_open_roads h.r8) hl
  rw [best_is]
  refine Eq.trans R ?_
  have e : rowsB q w pr x (waysOf p.rs x c) = rowsW q w c x := by
    unfold rowsB waysOf rowsW
    rw [List.filterMap_filter, S.at_]
    refine fm_congr fun r hr => ?_
    split
    · unfold restW
      obtain ⟨i, a, rfl, h1, _⟩ := at_mem.mp hr
      have hi := (List.getElem?_eq_some_iff.mp h1).1
      rw [Int.toNat_natCast, S.ln i hi]
      cases lenTo q w (ovr q.rs (i : Int) x) with
      | none => rfl
      | some z => show some (pr.getD i 0 + z, (i : Int)) = some (z + pr.getD i 0, (i : Int)); rw [Int.add_comm]
    · rfl
  rw [List.nil_append, e]; rfl
theorem w_next {ch : D} {n : Nat} {o1 o2 o3 : Option Int} {bz : Bool} {lr cl one : List Int} (IG BR RL : Fm) (LE LI : EF) (IR : IF) (ru : Ru) (hG : IG [.fro ch, .fro (stD x c s)] = .ok (.fro (.bl bz), [.un, .un]))
    (hRL : RL [.fro ch] = .ok (.own (.lst (Li lr)), [.un]))
    (hLE : LE [.fro ch, .fro (stD x c s), .fro (.str (ruS .few)), .un, .un, .fro (.int x), .fro (.tup (Li c)), .fro (.tup (Li s)), .un] = .ok (.own (.lst (Li one)), [.fro ch, .fro (stD x c s), .fro (.str (ruS .few)), .un, .un, .fro (.int x), .fro (.tup (Li c)), .fro (.tup (Li s)), .un]))
    (hLI : LI [.fro ch, .fro (stD x c s), .fro (.str (ruS .known)), .own (.lst (Li lr)), .fro .non, .fro (.int x), .fro (.tup (Li c)), .fro (.tup (Li s)), .un] = .ok (.own (.lst (Li cl)), [.fro ch, .fro (stD x c s), .fro (.str (ruS .known)), .own (.lst (Li lr)), .fro .non, .fro (.int x), .fro (.tup (Li c)), .fro (.tup (Li s)), .un]))
    (h1 : BR [.fro ch, .fro (stD x c s), .fro (.tup (Li s)), .fro (.lst (Li one))] = .ok (.fro (oD o1), [.un, .un, .un, .un])) (h2 : BR [.fro ch, .fro (stD x c s), .fro (.tup (Li s)), .fro (.lst (Li lr))] = .ok (.fro (oD o2), [.un, .un, .un, .un])) (h3 : BR [.fro ch, .fro (stD x c s), .fro (.lst (Li cl)), .fro (.lst (Li lr))] = .ok (.fro (oD o3), [.un, .un, .un, .un])) :
    (runF 3 6 (sCons (sIf (bB (eCall IG (aCons (eVar 0) (aCons (eVar 1) (aNil))))) (sRet (eC .non)) (sNil)) (sCons (sAsg (gT 3 (gsCons (gN 5) (gsCons (gN 6) (gsCons (gN 7) (gsNil))))) (eVar 1)) (sCons (sIf (bB (e2 oEq (eUse 2) (eC (.str "few")))) (sRet (eCall BR (aCons (eVar 0) (aCons (eVar 1) (aCons (eVar 7) (aCons LE (aNil))))))) (sNil)) (sCons (sSet 3 (eCall RL (aCons (eVar 0) (aNil)))) (sCons (sSet 4 (eC .non)) (sCons (sIf (bB (e2 oEq (eUse 2) (eC (.str "known")))) (sSet 4 (eCall BR (aCons (eVar 0) (aCons (eVar 1) (aCons LI (aCons (eVar 3) (aNil))))))) (sNil)) (sRet (eIf (bB (e2 oIsN (eUse 4) (eC .non))) (eCall BR (aCons (eVar 0) (aCons (eVar 1) (aCons (eVar 7) (aCons (eVar 3) (aNil)))))) (eVar 4)))))))))) [.fro ch, .fro (stD x c s), .fro (.str (ruS ru))]
      = .ok (.fro (oD (if bz = true then none else match ru with | .near => o2 | .few => o1 | .known => o3.or o2)), [.un, .un, .un]) := by
  have hst : stD x c s = .tup [.int x, .tup (Li c), .tup (Li s)] := rfl
  generalize hsd : stD x c s = st at *
  cases bz with
  | true => simp [hG, oD]
  | false =>
    rw [if_neg Bool.false_ne_true]
    cases ru with
    | near =>
      subst hst
      simp only [Li] at *
      simp [hG, hRL, eq_nf, eq_nk, h2, D.isN]
    | few =>
      subst hst
      simp only [Li] at *
      simp [hG, eq_ff, hLE, h1]
    | known =>
      subst hst
      simp only [Li] at *
      cases o3 with
      | none =>
        simp only [oD] at h3
        simp [hG, hRL, eq_kf, eq_kk, hLI, h2, h3, D.isN]
      | some z =>
        simp only [oD] at h3
        simp [hG, hRL, eq_kf, eq_kk, hLI, h3, D.isN, oD]
theorem rep_one : ∀ n : Nat, (List.replicate n [D.int 1]).flatten = Li (List.replicate n 1)
  | 0 => rfl
  | n + 1 => by rw [List.replicate_succ, List.flatten_cons, rep_one n, List.replicate_succ]; rfl
theorem rep_ones {k : Int} (h0 : 0 ≤ k) (h8 : k ≤ 8) : oRep (.lst [.int 1]) (.int k) = .ok (.own (.lst (Li (List.replicate k.toNat 1)))) := by
  show (if -(2 ^ 63) ≤ k ∧ k < 2 ^ 63 ∧ [D.int 1].length * k.toNat ≤ sizeLine then _ else _) = _
  rw [if_pos ⟨by omega, by omega, (by show 1 * k.toNat ≤ sizeLine; rw [Nat.one_mul]; exact sl8 (show k.toNat ≤ 1000 by omega))⟩, rep_one]
theorem e_ones {k : Int} {ρ : Env} (L : EF) (h0 : 0 ≤ k) (h8 : k ≤ 8) (hL : L ρ = .ok (.fro (.int k), ρ)) : e2 oRep (eLst (aCons (eC (.int 1)) (aNil))) L ρ = .ok (.own (.lst (Li (List.replicate k.toNat 1))), ρ) := by
  have sz : 1 ≤ sizeLine := by decide
  have hr := rep_ones h0 h8
  generalize oRep = R at hr ⊢
  simp [hL, sz, hr]
theorem small_k {k : Int} (h0 : 0 ≤ k) (h8 : k ≤ 8) : small k = true := by
  unfold small
  rw [Bool.and_eq_true]
  exact ⟨decide_eq_true (by omega), decide_eq_true (by omega)⟩
theorem range_k {k : Int} {ρ : Env} (L : EF) (hs : small k = true) (hL : L ρ = .ok (.fro (.int k), ρ)) : iRange1 (aCons L aNil) ρ = .ok (intsD 0 k.toNat, ρ) := by
  unfold iRange1
  simp [hL, hs]
theorem e_compl {k : Int} {free : List Int} {ρ : Env} (L : EF) (h0 : 0 ≤ k) (h8 : k ≤ 8) (hL : L ρ = .ok (.fro (.int k), ρ)) (h6 : ρ[6]? = some (.fro (.tup (Li free)))) (hi : ρ[8]? = some .un) :
    eLc (gN 8) [8] (iRange1 (aCons L aNil)) (bB (e2 (oIn true) (eUse 8) (eUse 6))) (eVar 8) ρ = .ok (.own (.lst (Li (compl k.toNat free))), ρ) := by
  have n8 : k.toNat ≤ 8 := by omega
  have hr := range_k (ρ := ρ) L (small_k h0 h8) hL
  generalize k.toNat = n at n8 hr ⊢
  have e : intsD 0 n = (((List.range n).map fun i : Nat => (i : Int)).map D.int) := ints0 n
  have hlt : 8 < ρ.length := (List.getElem?_eq_some_iff.mp hi).1
  have hl : lcL (gN 8) [8] (bB (e2 (oIn true) (eUse 8) (eUse 6))) (eVar 8) (intsD 0 n) ρ [] = .ok (Li (compl n free), ρ) := by
    rw [e]
    refine lc_ints (fun r => !free.contains r) (fun r hr => ?_) hi (by rw [List.length_map, List.length_range]; exact sl8 (by omega))
    have g8 : (ρ.set 8 (.fro (.int r)))[8]? = some (.fro (.int r)) := List.getElem?_set_self hlt
    have g6 : (ρ.set 8 (.fro (.int r)))[6]? = some (.fro (.tup (Li free))) := by rw [List.getElem?_set_ne (by decide)]; exact h6
    have o := oIn_tup true r free
    simp only [z_bB, z_e2, z_eUse, g8, g6, Res.bind_ok, z_hold_fro, z_deref_fro, Res.of_some, o, if_pos]
  have hw : wipeE ρ [8] = ρ := by
    rw [z_wipe_cons, z_wipe_nil]
    apply List.ext_getElem?
    intro k
    by_cases hk : 8 = k
    · subst hk; rw [List.getElem?_set_self hlt, hi]
    · rw [List.getElem?_set_ne hk]
  rw [z_eLc, hr, Res.bind_ok, hw, hl]; rfl
/-- the road that the program's walker takes -/
def nextR (p : Pl) (c s : List Int) (ru : Ru) (x : Int) : Option Int := if x = p.g then none else choice p c s ru x
theorem choose_or (p : Pl) (c s : List Int) (x : Int) : (choose p (compl p.rs.length c) c x).or (choose p s c x) = choice p c s .known x := by
  unfold choice
  dsimp only
  split
  · rename_i h
    have : choose p (compl p.rs.length c) c x = none := by unfold choose; rw [List.isEmpty_iff.mp h]; rfl
    rw [this]; rfl
  · rename_i h
    cases hc : choose p (compl p.rs.length c) c x with
    | some r => rfl
    | none =>
      unfold choose at hc
      rw [Option.map_eq_none_iff] at hc
      rw [minRow_none hc] at h
      exact absurd rfl h
theorem m_next (h : p.Gd) (ru : Ru) : F__next_road [.fro p.ch, .fro (stD x c s), .fro (.str (ruS ru))] = .ok (.fro (oD (nextR p c s ru x)), [.un, .un, .un]) := by
  have h1 := m_best (x := x) (c := c) (s := s) (w := s) (dw := .tup (Li s)) h (same_ones h) (.inl rfl)
  have h2 := m_best (x := x) (c := c) (s := s) (w := s) (dw := .tup (Li s)) h (same_lens h) (.inl rfl)
  have h3 := m_best (x := x) (c := c) (s := s) (w := compl p.rs.length c) (dw := .lst (Li (compl p.rs.length c))) h (same_lens h) (.inr rfl)
  have R := w_next (n := p.rs.length) (cl := compl p.rs.length c) F_is_at_goal F__best_road F_road_lengths
    (e2 oRep (eLst (aCons (eC (.int 1)) (aNil))) (eLenO 0 F_Map___len__ (eVar 0)))
    (eLc (gN 8) [8] (iRange1 (aCons (eLenO 0 F_Map___len__ (eVar 0)) aNil)) (bB (e2 (oIn true) (eUse 8) (eUse 6))) (eVar 8)) (iRange1 aNil) ru (m_goal (p := p)) (m_lens h.r8)
    (e_ones _ (Int.natCast_nonneg _) (by have := h.r8; omega) (m_lenO (p := p) rfl h.r8)) (e_compl _ (Int.natCast_nonneg _) (by have := h.r8; omega) (m_lenO (p := p) rfl h.r8) rfl rfl) h1 h2 h3
  refine Eq.trans R ?_
  unfold nextR
  congr 3
  by_cases hx : x = p.g
  · rw [if_pos hx, if_pos (by simpa using hx)]
  · rw [if_neg hx, if_neg (by simpa using hx)]
    cases ru with
    | near => rfl
    | few => rfl
    | known => exact congrArg oD (choose_or p c s x)
end
end Dt
end

section
set_option Elab.async false
set_option linter.all false
set_option maxRecDepth 100000
set_option maxHeartbeats 4000000
set_option autoImplicit false
namespace Dt
open PySem PySem.Spec PyProof.Rows L2

/-! ### the program's walk -/
section
variable {p : Pl} {W : List Int} {x : Int} {c s fo : List Int} {ru : Ru}
def condPW : BF := bB (e2 oNotN (eUse 5) (eC .non))
def bodyPW (SA NX : Fm) : SF := sCons (sApp 4 (eVar 5)) (sCons (sSet 3 (eCall SA (aCons (eVar 0) (aCons (eVar 1) (aCons (eVar 3) (aCons (eVar 5) (aNil))))))) (sSet 5 (eCall NX (aCons (eVar 0) (aCons (eVar 3) (aCons (eVar 2) (aNil)))))))
def envPW (ch : D) (W : List Int) (ru : Ru) (st : D) (fo : List Int) (o : Option Int) : Env := [.fro ch, .fro (.tup (Li W)), .fro (.str (ruS ru)), .fro st, .own (.lst (Li fo)), .fro (oD o)]
theorem condPW_ok {ch st : D} {o : Option Int} : condPW (envPW ch W ru st fo o) = .ok (o.isSome, envPW ch W ru st fo o) := by
  cases o <;> simp [condPW, envPW, oD, D.isN]
theorem bodyPW_ok {ch st st' : D} {r : Int} {o : Option Int} (SA NX : Fm) (hS : SA [.fro ch, .fro (.tup (Li W)), .fro st, .fro (.int r)] = .ok (.fro st', [.un, .un, .un, .un])) (hN : NX [.fro ch, .fro st', .fro (.str (ruS ru))] = .ok (.fro (oD o), [.un, .un, .un])) (hf : fo.length < sizeLine) :
    bodyPW SA NX (envPW ch W ru st fo (some r)) = .ok (.nx, envPW ch W ru st' (fo ++ [r]) o) := by
  simp only [Li] at *
  simp [bodyPW, envPW, oD, z_sApp, isL, putL, Cell.mut, Cell.dat, Cell.put, hf, hS, hN]
theorem whileP (h : p.Gd) : ∀ (n : Nat) (x : Int) (t : List Int × List Int) (c s fo : List Int) (z : List Int × Int), walkN p W ru n x t fo = some z → Knows p.rs.length W (see p.rs W x t) c s → fo.length + n ≤ 4000 →
    ∃ c' s', sWhile condPW (bodyPW F_state_after_in F__next_road) n (envPW p.ch W ru (stD x c s) fo (nextR p c s ru x)) = .ok (.nx, envPW p.ch W ru (stD z.2 c' s') z.1 none)
  | 0, _, _, _, _, _, _, hz, _, _ => by cases hz
  | n + 1, x, t, c, s, fo, z, hz, K, hn => by
    have hf : fo.length < sizeLine := Nat.lt_of_le_of_lt (show fo.length ≤ 4000 by omega) (by decide)
    have step : ∀ ρ0, sWhile condPW (bodyPW F_state_after_in F__next_road) (n + 1) ρ0 = (condPW ρ0).bind fun q => if q.1 = true then (bodyPW F_state_after_in F__next_road q.2).bind fun q => match q.1 with
      | .nx => sWhile condPW (bodyPW F_state_after_in F__next_road) n q.2
      | .ct => sWhile condPW (bodyPW F_state_after_in F__next_road) n q.2
      | .bk => .ok (.nx, q.2)
      | .ret r => .ok (.ret r, q.2)
      else .ok (.nx, q.2) := fun ρ0 => rfl
    rw [walkN] at hz
    have hc : choice p c s ru x = choice p (see p.rs W x t).1 (see p.rs W x t).2 ru x := choice_same K.c1 K.s1
    rw [← hc] at hz
    rw [step, condPW_ok, Res.bind_ok]
    have hstay : nextR p c s ru x = none → z = (fo, x) → ∃ c' s', (if (nextR p c s ru x).isSome = true then (bodyPW F_state_after_in F__next_road (envPW p.ch W ru (stD x c s) fo (nextR p c s ru x))).bind fun q => match q.1 with
      | .nx => sWhile condPW (bodyPW F_state_after_in F__next_road) n q.2
      | .ct => sWhile condPW (bodyPW F_state_after_in F__next_road) n q.2
      | .bk => .ok (.nx, q.2)
      | .ret r => .ok (.ret r, q.2)
      else .ok (.nx, envPW p.ch W ru (stD x c s) fo (nextR p c s ru x))) = Res.ok (Fl.nx, envPW p.ch W ru (stD z.2 c' s') z.1 none) := fun e ez => by
      rw [e, ez]
      exact ⟨c, s, rfl⟩
    cases ho : choice p c s ru x with
    | none =>
      rw [ho] at hz
      cases hz
      exact hstay (by unfold nextR; rw [ho]; split <;> rfl) rfl
    | some r =>
      rw [ho] at hz
      dsimp only at hz
      by_cases hx : x = p.g
      · rw [if_pos hx] at hz
        cases hz
        exact hstay (by unfold nextR; rw [if_pos hx]) rfl
      · rw [if_neg hx] at hz
        have e : nextR p c s ru x = some r := by unfold nextR; rw [if_neg hx, ho]
        have hr : r ∈ atR p.rs x := choice_at ho
        obtain ⟨l1, l2⟩ := K.len h.r8
        have b := bodyPW_ok (ch := p.ch) (W := W) (ru := ru) (fo := fo) F_state_after_in F__next_road (m_after_in (W := W) h l1 l2 hr) (m_next h ru) hf
        rw [e]
        dsimp only
        rw [if_pos (show (some r).isSome = true from rfl), b, Res.bind_ok]
        exact whileP h n _ _ _ _ _ z hz (K.step _) (by rw [List.length_append, List.length_singleton]; omega)
def whole (FI NX : Fm) (WH : SF) : SF := sCons (sSet 3 (eCall FI (aCons (eVar 0) (aCons (eVar 1) (aNil))))) (sCons (sSet 4 (eLst (aNil))) (sCons (sSet 5 (eCall NX (aCons (eVar 0) (aCons (eVar 3) (aCons (eVar 2) (aNil)))))) (sCons WH (sRet (eTup (aCons (eVar 4) (aCons (eVar 3) (aNil))))))))
theorem whole_is : F__whole_walk = runF 3 3 (whole F_first_state_in F__next_road (sWhile condPW (bodyPW F_state_after_in F__next_road) 4000)) := rfl
theorem whole_run {ch st st' : D} {o : Option Int} (FI NX : Fm) (WH : SF) (h1 : FI [.fro ch, .fro (.tup (Li W))] = .ok (.fro st, [.un, .un])) (h2 : NX [.fro ch, .fro st, .fro (.str (ruS ru))] = .ok (.fro (oD o), [.un, .un, .un])) (h3 : WH (envPW ch W ru st [] o) = .ok (.nx, envPW ch W ru st' fo none)) :
    runF 3 3 (whole FI NX WH) [.fro ch, .fro (.tup (Li W)), .fro (.str (ruS ru))] = .ok (.fro (.tup [.lst (Li fo), st']), [.un, .un, .un]) := by
  have s0 : 0 ≤ sizeLine := Nat.zero_le _
  have s2 : 2 ≤ sizeLine := by decide
  simp only [Li, envPW] at *
  simp only [List.map_nil] at h3
  simp [whole, h1, h2, s0, s2, h3]
theorem m_whole (h : p.Gd) (hW : W.length ≤ 3) (ru : Ru) : ∃ c' s', F__whole_walk [.fro p.ch, .fro (.tup (Li W)), .fro (.str (ruS ru))] = .ok (.fro (.tup [.lst (Li (walkOf p W ru).1), stD (walkOf p W ru).2 c' s']), [.un, .un, .un]) := by
  obtain ⟨c', s', e⟩ := whileP (W := W) (ru := ru) h 4000 p.b ([], []) _ _ [] _ (walkOf_eq h hW ru) (Knows.nil.step p.b) (by simp)
  exact ⟨c', s', Eq.trans (congrFun whole_is _) (whole_run F_first_state_in F__next_road _ (m_first_in h) (m_next h ru) e)⟩
theorem m_check_rule (ru : Ru) : F__check_rule [.fro (.str (ruS ru))] = .ok (.fro .non, [.un]) := by cases ru <;> rfl
theorem w_check {ch : D} (C1 C2 C3 : Fm) (h1 : C1 [.fro ch] = .ok (.fro .non, [.un])) (h2 : C2 [.fro ch, .fro (.tup (Li W))] = .ok (.fro .non, [.un, .un])) (h3 : C3 [.fro (.str (ruS ru))] = .ok (.fro .non, [.un])) :
    runF 3 0 (sCons (sDrop (eCall C1 (aCons (eVar 0) (aNil)))) (sCons (sDrop (eCall C2 (aCons (eVar 0) (aCons (eVar 1) (aNil))))) (sDrop (eCall C3 (aCons (eVar 2) (aNil)))))) [.fro ch, .fro (.tup (Li W)), .fro (.str (ruS ru))] = .ok (.fro .non, [.un, .un, .un]) := by
  simp [h1, h2, h3]
structure WOk (p : Pl) (W : List Int) : Prop where
  asc : W.Pairwise (· < ·)
  inr : InR p.rs.length W
  few : (W.length : Int) ≤ p.m
theorem m_check_walk (h : p.Ok) (hW : WOk p W) (ru : Ru) : F__check_walk [.fro p.ch, .fro (.tup (Li W)), .fro (.str (ruS ru))] = .ok (.fro .non, [.un, .un, .un]) :=
  w_check F_check_map F_check_world F__check_rule (m_check p) (m_check_world hW.inr hW.asc hW.few h.r8) (m_check_rule ru)
theorem w_walk {ch st : D} (C WW : Fm) (h1 : C [.fro ch, .fro (.tup (Li W)), .fro (.str (ruS ru))] = .ok (.fro .non, [.un, .un, .un])) (h2 : WW [.fro ch, .fro (.tup (Li W)), .fro (.str (ruS ru))] = .ok (.fro (.tup [.lst (Li fo), st]), [.un, .un, .un])) :
    runF 3 2 (sCons (sDrop (eCall C (aCons (eVar 0) (aCons (eVar 1) (aCons (eVar 2) (aNil)))))) (sCons (sAsg (gT 2 (gsCons (gN 3) (gsCons (gN 4) (gsNil)))) (eCall WW (aCons (eVar 0) (aCons (eVar 1) (aCons (eVar 2) (aNil)))))) (sRet (eVar 3)))) [.fro ch, .fro (.tup (Li W)), .fro (.str (ruS ru))] = .ok (.fro (.lst (Li fo)), [.un, .un, .un]) := by
  simp [h1, h2]
theorem m_pwalk (h : p.Ok) (hW : WOk p W) (ru : Ru) : F_walk [.fro p.ch, .fro (.tup (Li W)), .fro (.str (ruS ru))] = .ok (.fro (.lst (Li (walkOf p W ru).1)), [.un, .un, .un]) := by
  have w3 : W.length ≤ 3 := by have := h.m2; have := hW.few; omega
  obtain ⟨c', s', e⟩ := m_whole h.gd w3 ru
  exact w_walk F__check_walk F__whole_walk (m_check_walk h hW ru) e
theorem sum_lens {rs : List Rd} {fo : List Int} {ρ0 : Env} (hf : ∀ r ∈ fo, 0 ≤ r ∧ r < rs.length) (hl : fo.length ≤ 4000) (h3 : ρ0[3]? = some (.own (.lst (Li (lens rs))))) (hi : ρ0[6]? = some .un) :
    lcL (gN 6) [6] bYes (e2 oIx (eUse 3) (eUse 6)) (Li fo) ρ0 [] = .ok ((fo.map (lenR rs)).map D.int, ρ0) := by
  have hlt : 6 < ρ0.length := (List.getElem?_eq_some_iff.mp hi).1
  have hw : ∀ c, (ρ0.set 6 c).set 6 .un = ρ0 := fun c => by
    rw [List.set_set]
    apply List.ext_getElem?
    intro k
    by_cases hk : 6 = k
    · subst hk; rw [List.getElem?_set_self hlt, hi]
    · rw [List.getElem?_set_ne hk]
  rw [lcL_map (fun _ => true) (fun d => match d with | .int r => .int (lenR rs r) | _ => .non) (fun d hd => ?_) (by rw [List.length_nil, List.length_map]; exact Nat.le_trans (show 0 + fo.length ≤ 4000 by omega) (by decide))]
  · rw [filter_all fun _ _ => rfl, List.nil_append, List.map_map, List.map_map]; rfl
  · obtain ⟨r, hr, rfl⟩ := List.mem_map.mp hd
    refine ⟨_, _, rfl, rfl, by simp, fun _ => ⟨.fro (.int (lenR rs r)), ρ0.set 6 (.fro (.int r)), ?_, rfl, hw _⟩⟩
    have g6 : (ρ0.set 6 (.fro (.int r)))[6]? = some (.fro (.int r)) := List.getElem?_set_self hlt
    have g3 : (ρ0.set 6 (.fro (.int r)))[3]? = some (.own (.lst (Li (lens rs)))) := by rw [List.getElem?_set_ne (by decide)]; exact h3
    obtain ⟨r0, r1⟩ := hf r hr
    obtain ⟨i, rfl⟩ := Int.eq_ofNat_of_zero_le r0
    have hi2 : i < rs.length := by omega
    have hx := ix_li (pr := lens rs) (k := i) (by rw [lens_len]; exact hi2)
    have el : lenR rs (i : Int) = (lens rs).getD i 0 := by
      unfold lenR lens
      rw [Int.toNat_natCast, List.getElem?_eq_getElem hi2]
      simp [List.getD_eq_getElem?_getD, hi2]
    simp only [Li] at g3
    rw [el]
    simp only [z_e2, z_eUse, g6, g3, Res.bind_ok, z_hold_fro, z_hold_bor, z_deref_fro, z_deref_bor, Res.of_some, hx]
theorem w_walked {ch st : D} {bz : Bool} {k : Int} {ls : List Int} {ds : List D} (C WW RL IG : Fm) (h1 : C [.fro ch, .fro (.tup (Li W)), .fro (.str (ruS ru))] = .ok (.fro .non, [.un, .un, .un])) (h2 : WW [.fro ch, .fro (.tup (Li W)), .fro (.str (ruS ru))] = .ok (.fro (.tup [.lst (Li fo), st]), [.un, .un, .un])) (h3 : RL [.fro ch] = .ok (.own (.lst (Li ls)), [.un])) (h4 : IG [.fro ch, .fro st] = .ok (.fro (.bl bz), [.un, .un]))
    (h5 : lcL (gN 6) [6] bYes (e2 oIx (eUse 3) (eUse 6)) (Li fo) [.fro ch, .fro (.tup (Li W)), .fro (.str (ruS ru)), .own (.lst (Li ls)), .fro (.lst (Li fo)), .fro st, .un] [] = .ok (ds, [.fro ch, .fro (.tup (Li W)), .fro (.str (ruS ru)), .own (.lst (Li ls)), .fro (.lst (Li fo)), .fro st, .un])) (h6 : oSum (.lst ds) = .ok (.fro (.int k))) :
    runF 3 4 (sCons (sDrop (eCall C (aCons (eVar 0) (aCons (eVar 1) (aCons (eVar 2) (aNil)))))) (sCons (sAsg (gT 2 (gsCons (gN 4) (gsCons (gN 5) (gsNil)))) (eCall WW (aCons (eVar 0) (aCons (eVar 1) (aCons (eVar 2) (aNil)))))) (sCons (sSet 3 (eCall RL (aCons (eVar 0) (aNil)))) (sRet (eIf (bB (eCall IG (aCons (eVar 0) (aCons (eVar 5) (aNil))))) (eCB (c1 oSum) (aCons (eLc (gN 6) [6] (iData (eVar 4)) (bYes) (e2 oIx (eUse 3) (eUse 6))) (aNil))) (eC .non)))))) [.fro ch, .fro (.tup (Li W)), .fro (.str (ruS ru))] = .ok (.fro (oD (if bz = true then some k else none)), [.un, .un, .un]) := by
  simp only [Li] at *
  cases bz <;> simp [h1, h2, h3, h4, h5, h6, oD]
theorem sum_ints (l : List Int) : oSum (.lst (l.map D.int)) = .ok (.fro (.int l.sum)) := by
  have : D.nums (.lst (l.map D.int)) = some l := by
    show D.ints (l.map D.int) = some l
    induction l with
    | nil => rfl
    | cons a l ih => rw [List.map_cons, D.ints, ih]; rfl
  unfold oSum
  rw [this]; rfl
theorem m_pwalked (h : p.Ok) (hW : WOk p W) (ru : Ru) : F_walked [.fro p.ch, .fro (.tup (Li W)), .fro (.str (ruS ru))] = .ok (.fro (oD (lenW p W ru)), [.un, .un, .un]) := by
  have w3 : W.length ≤ 3 := by have := h.m2; have := hW.few; omega
  obtain ⟨c', s', e⟩ := m_whole h.gd w3 ru
  obtain ⟨g1, g2⟩ := walkN_in (walkOf_eq h.gd w3 ru) (fun r hr => by cases hr)
  have R := w_walked (k := ((walkOf p W ru).1.map (lenR p.rs)).sum) F__check_walk F__whole_walk F_road_lengths F_is_at_goal (m_check_walk h hW ru) e (m_lens h.r8) (m_goal (p := p)) (sum_lens (rs := p.rs) g1 (by simpa using g2) rfl rfl) (sum_ints _)
  refine Eq.trans R ?_
  unfold lenW
  by_cases hx : (walkOf p W ru).2 = p.g
  · rw [if_pos hx, if_pos (by simpa using hx)]
  · rw [if_neg hx, if_neg (by simpa using hx)]
end
end Dt
end

section
set_option Elab.async false
set_option linter.all false
set_option maxRecDepth 100000
set_option maxHeartbeats 4000000
set_option autoImplicit false
namespace Dt
open PySem PySem.Spec PyProof.Rows L2

/-! ### the program's list of worlds is the law's, by trying every number of roads -/
def smallB (n : Nat) (m : Int) : Bool := match F_small_sets [.fro (.lst (Li ((List.range n).map fun i : Nat => (i : Int)))), .fro (.int m)] with
  | .ok (.fro (.lst b), [.un, .un]) => decide (D.tups b = some (everyN n m))
  | _ => false
theorem smallB_ok {n : Nat} {m : Int} (h : smallB n m = true) : F_small_sets [.fro (.lst (Li ((List.range n).map fun i : Nat => (i : Int)))), .fro (.int m)] = .ok (.fro (.lst ((everyN n m).map kD)), [.un, .un]) := by
  unfold smallB at h
  split at h
  · rename_i b e
    rw [e, tups_eq (of_decide_eq_true h)]
  · cases h
theorem small1_0 : smallB 1 0 = true := by decide +kernel
theorem small1_1 : smallB 1 1 = true := by decide +kernel
theorem small1_2 : smallB 1 2 = true := by decide +kernel
theorem small1_3 : smallB 1 3 = true := by decide +kernel
theorem small2_0 : smallB 2 0 = true := by decide +kernel
theorem small2_1 : smallB 2 1 = true := by decide +kernel
theorem small2_2 : smallB 2 2 = true := by decide +kernel
theorem small2_3 : smallB 2 3 = true := by decide +kernel
theorem small3_0 : smallB 3 0 = true := by decide +kernel
theorem small3_1 : smallB 3 1 = true := by decide +kernel
theorem small3_2 : smallB 3 2 = true := by decide +kernel
theorem small3_3 : smallB 3 3 = true := by decide +kernel
theorem small4_0 : smallB 4 0 = true := by decide +kernel
theorem small4_1 : smallB 4 1 = true := by decide +kernel
theorem small4_2 : smallB 4 2 = true := by decide +kernel
theorem small4_3 : smallB 4 3 = true := by decide +kernel
theorem small5_0 : smallB 5 0 = true := by decide +kernel
theorem small5_1 : smallB 5 1 = true := by decide +kernel
theorem small5_2 : smallB 5 2 = true := by decide +kernel
theorem small5_3 : smallB 5 3 = true := by decide +kernel
theorem small6_0 : smallB 6 0 = true := by decide +kernel
theorem small6_1 : smallB 6 1 = true := by decide +kernel
theorem small6_2 : smallB 6 2 = true := by decide +kernel
theorem small6_3 : smallB 6 3 = true := by decide +kernel
theorem small7_0 : smallB 7 0 = true := by decide +kernel
theorem small7_1 : smallB 7 1 = true := by decide +kernel
theorem small7_2 : smallB 7 2 = true := by decide +kernel
theorem small7_3 : smallB 7 3 = true := by decide +kernel
theorem small8_0 : smallB 8 0 = true := by decide +kernel
theorem small8_1 : smallB 8 1 = true := by decide +kernel
theorem small8_2 : smallB 8 2 = true := by decide +kernel
theorem small8_3 : smallB 8 3 = true := by decide +kernel
theorem small_ok {n : Nat} {m : Int} (h1 : 1 ≤ n) (h8 : n ≤ 8) (m0 : 0 ≤ m) (m3 : m ≤ 3) : smallB n m = true := by
  have hm : m = 0 ∨ m = 1 ∨ m = 2 ∨ m = 3 := by omega
  have hn : n = 1 ∨ n = 2 ∨ n = 3 ∨ n = 4 ∨ n = 5 ∨ n = 6 ∨ n = 7 ∨ n = 8 := by omega
  rcases hn with rfl | rfl | rfl | rfl | rfl | rfl | rfl | rfl <;> rcases hm with rfl | rfl | rfl | rfl
  · exact small1_0
  · exact small1_1
  · exact small1_2
  · exact small1_3
  · exact small2_0
  · exact small2_1
  · exact small2_2
  · exact small2_3
  · exact small3_0
  · exact small3_1
  · exact small3_2
  · exact small3_3
  · exact small4_0
  · exact small4_1
  · exact small4_2
  · exact small4_3
  · exact small5_0
  · exact small5_1
  · exact small5_2
  · exact small5_3
  · exact small6_0
  · exact small6_1
  · exact small6_2
  · exact small6_3
  · exact small7_0
  · exact small7_1
  · exact small7_2
  · exact small7_3
  · exact small8_0
  · exact small8_1
  · exact small8_2
  · exact small8_3
section
variable {p : Pl} {ru : Ru}
theorem most_of {i : Nat} {ρ : Env} (h : ρ[i]? = some (.fro (.obj 0 p.ds))) : oSelf 0 F_Map_most (eVar i) ρ = .ok (.fro (.int p.m), ρ) := by
  rw [z_oSelf, z_eVar, h]
  simp only [Res.bind_ok, m_most, beq_self_eq_true, Res.need_true, z_made_fro]
theorem w_worlds {ch : D} {n : Nat} {m : Int} {rl w : D} (C S : Fm) (L M : EF) (R : D → Res RV) (h1 : C [.fro ch] = .ok (.fro .non, [.un])) (hL : L [.fro ch] = .ok (.fro (.int n), [.fro ch])) (hM : M [.fro ch] = .ok (.fro (.int m), [.fro ch])) (hR : R (.int n) = .ok (.own rl)) (hS : S [.fro rl, .fro (.int m)] = .ok (.fro w, [.un, .un])) :
    runF 1 0 (sCons (sDrop (eCall C (aCons (eVar 0) (aNil)))) (sRet (eCall S (aCons (e1 R L) (aCons M (aNil)))))) [.fro ch] = .ok (.fro w, [.un]) := by
  simp [h1, hL, hM, hR, hS]
theorem m_worlds (h : p.Ok) : F_worlds [.fro p.ch] = .ok (.fro (.lst ((wsP p).map kD)), [.un]) :=
  w_worlds F_check_map F_small_sets _ _ oLRange (m_check p) (m_lenO (p := p) rfl h.r8) (most_of (p := p) rfl) (lrangeP h.r8) (smallB_ok (small_ok h.r1 h.r8 h.m0 h.m2))
theorem wsP_ok (h : p.Ok) : ∀ W ∈ wsP p, WOk p W := fun W hW => by
  obtain ⟨_, _, h3⟩ := everyB_ok (worlds_ok h)
  obtain ⟨a, b, c⟩ := h3 W hW
  exact ⟨b, c, a⟩
end
end Dt
end

section
set_option Elab.async false
set_option linter.all false
set_option maxRecDepth 100000
set_option maxHeartbeats 4000000
set_option autoImplicit false
namespace Dt
open PySem PySem.Spec PyProof.Rows L2

section
variable {p : Pl} {ru : Ru}
/-! ### the worst world -/
def bodyO (WL : Fm) : SF := sCons (sSet 4 (eCall WL (aCons (eVar 0) (aCons (eVar 3) (aCons (eVar 1) (aNil)))))) (sIf (bAnd (bB (e2 oNotN (eUse 4) (eC .non))) (bOr (bB (e2 oIsN (eUse 2) (eC .non))) (bB (e2 oGt (eUse 4) (e2 oIx (eUse 2) (eC (.int 0))))))) (sSet 2 (eTup (aCons (eVar 4) (aCons (eVar 3) (aNil))))) (sNil))
def envO (ch : D) (ru : Ru) (m : Most) (u3 u4 : Cell) : Env := [.fro ch, .fro (.str (ruS ru)), .fro (wD m), u3, u4]
theorem bodyO_ok {ch : D} {m : Most} {W : List Int} {o : Option Int} {u4 : Cell} (WL : Fm) (h : WL [.fro ch, .fro (kD W), .fro (.str (ruS ru))] = .ok (.fro (oD o), [.un, .un, .un])) : ∃ v4, bodyO WL (envO ch ru m (.fro (kD W)) u4) = .ok (.nx, envO ch ru (stepM o m W) (.fro (kD W)) v4) := by
  have s2 : 2 ≤ sizeLine := by decide
  generalize hk : kD W = kw at h
  cases o with
  | none => exact ⟨.fro .non, by simp only [oD] at h; simp [bodyO, envO, h, D.isN, stepM]⟩
  | some z =>
    simp only [oD] at h
    refine ⟨.fro (.int z), ?_⟩
    cases m with
    | none => simp [bodyO, envO, h, D.isN, stepM, wD, s2, hk]
    | some a =>
      have hx : oIx (.tup [.int a.1, kD a.2]) (.int 0) = .ok (.fro (.int a.1)) := rfl
      have hg : oGt (.int z) (.int a.1) = .ok (.fro (.bl (decide (z > a.1)))) := rfl
      by_cases hz : a.1 < z
      · rw [decide_eq_true (show z > a.1 from hz)] at hg
        simp [bodyO, envO, h, D.isN, stepM, wD, s2, hx, hg, hz, hk]
      · rw [decide_eq_false (show ¬ z > a.1 from hz)] at hg
        simp [bodyO, envO, h, D.isN, stepM, wD, s2, hx, hg, hz]
theorem loopO {ch : D} {lw : List Int → Option Int} (WL : Fm) : ∀ (ws : List (List Int)) (m : Most) (u3 u4 : Cell), (∀ W ∈ ws, WL [.fro ch, .fro (kD W), .fro (.str (ruS ru))] = .ok (.fro (oD (lw W)), [.un, .un, .un])) →
    ∃ v3 v4, forL (gN 3) (bodyO WL) (ws.map kD) (envO ch ru m u3 u4) = .ok (.nx, envO ch ru (ws.foldl (fun m W => stepM (lw W) m W) m) v3 v4)
  | [], m, u3, u4, _ => ⟨u3, u4, rfl⟩
  | W :: ws, m, u3, u4, h => by
    obtain ⟨v4, e⟩ := bodyO_ok (m := m) (u4 := u4) WL (h W (List.mem_cons_self ..))
    obtain ⟨w3, w4, ih⟩ := loopO (lw := lw) WL ws (stepM (lw W) m W) (.fro (kD W)) v4 fun V hV => h V (List.mem_cons_of_mem _ hV)
    refine ⟨w3, w4, ?_⟩
    rw [List.map_cons, forL, show gN 3 (kD W) (envO ch ru m u3 u4) = .ok (envO ch ru m (.fro (kD W)) u4) from rfl, Res.bind_ok, e, Res.bind_ok]
    show forL (gN 3) _ (ws.map kD) _ = _
    rw [ih]; rfl
theorem w_worst {ch : D} {wl : List D} {m : Most} {v3 v4 : Cell} (C1 C3 WS : Fm) (B : SF) (h1 : C1 [.fro ch] = .ok (.fro .non, [.un])) (h2 : C3 [.fro (.str (ruS ru))] = .ok (.fro .non, [.un])) (h3 : WS [.fro ch] = .ok (.fro (.lst wl), [.un])) (h4 : forL (gN 3) B wl (envO ch ru none .un .un) = .ok (.nx, envO ch ru m v3 v4)) :
    runF 2 3 (sCons (sDrop (eCall C1 (aCons (eVar 0) (aNil)))) (sCons (sDrop (eCall C3 (aCons (eVar 1) (aNil)))) (sCons (sSet 2 (eC .non)) (sCons (sFor (gN 3) (iData (eCall WS (aCons (eVar 0) (aNil)))) B) (sRet (eVar 2)))))) [.fro ch, .fro (.str (ruS ru))] = .ok (.fro (wD m), [.un, .un]) := by
  simp only [envO] at h4
  rw [show wD none = .non from rfl] at h4
  simp [h1, h2, h3, h4]
theorem m_worst (h : p.Ok) (ru : Ru) : F_worst [.fro p.ch, .fro (.str (ruS ru))] = .ok (.fro (wD (worstOf p (wsP p) ru)), [.un, .un]) := by
  obtain ⟨v3, v4, e⟩ := loopO (ru := ru) (lw := fun W => lenW p W ru) F_walked (wsP p) none .un .un fun W hW => m_pwalked h (wsP_ok h W hW) ru
  exact w_worst F_check_map F__check_rule F_worlds _ (m_check p) (m_check_rule ru) (m_worlds h) e
/-! ### the best rules -/
def rowU (a : Int × Ru) : D := .tup [.int a.1, .str (ruS a.2)]
def bodyEB (WO : Fm) : SF := sCons (sSet 4 (eCall WO (aCons (eVar 0) (aCons (eVar 2) (aNil))))) (sIf (bB (e2 oNotN (eUse 4) (eC .non))) (sApp 1 (eTup (aCons (e2 oIx (eUse 4) (eC (.int 0))) (aCons (eVar 2) (aNil))))) (sNil))
def envEB (ch : D) (acc : List (Int × Ru)) (u2 u4 : Cell) : Env := [.fro ch, .own (.lst (acc.map rowU)), u2, .un, u4, .un, .un]
theorem bodyEB_ok {ch : D} {acc : List (Int × Ru)} {m : Most} {u4 : Cell} (WO : Fm) (h : WO [.fro ch, .fro (.str (ruS ru))] = .ok (.fro (wD m), [.un, .un])) (ha : acc.length ≤ 8) : ∃ v4, bodyEB WO (envEB ch acc (.fro (.str (ruS ru))) u4) = .ok (.nx, envEB ch (acc ++ (m.map fun a => (a.1, ru)).toList) (.fro (.str (ruS ru))) v4) := by
  have s2 : 2 ≤ sizeLine := by decide
  have l1 : acc.length < sizeLine := Nat.lt_of_le_of_lt ha (by decide)
  cases m with
  | none => exact ⟨.fro .non, by simp only [wD] at h; simp [bodyEB, envEB, h, D.isN]⟩
  | some a =>
    simp only [wD] at h
    have hx : oIx (.tup [.int a.1, kD a.2]) (.int 0) = .ok (.fro (.int a.1)) := rfl
    exact ⟨.fro (.tup [.int a.1, kD a.2]), by simp [bodyEB, envEB, h, hx, D.isN, s2, z_sApp, isL, putL, Cell.mut, Cell.dat, Cell.put, l1, rowU]⟩
theorem loopEB {ch : D} {wo : Ru → Most} (WO : Fm) : ∀ (rus : List Ru) (acc : List (Int × Ru)) (u2 u4 : Cell), (∀ ru, WO [.fro ch, .fro (.str (ruS ru))] = .ok (.fro (wD (wo ru)), [.un, .un])) → acc.length + rus.length ≤ 8 →
    ∃ v2 v4, forL (gN 2) (bodyEB WO) (rus.map fun r => .str (ruS r)) (envEB ch acc u2 u4) = .ok (.nx, envEB ch (acc ++ rus.filterMap fun ru => (wo ru).map fun a => (a.1, ru)) v2 v4)
  | [], acc, u2, u4, _, _ => ⟨u2, u4, by show Res.ok _ = _; simp⟩
  | r :: rus, acc, u2, u4, h, hn => by
    rw [List.length_cons] at hn
    obtain ⟨v4, e⟩ := bodyEB_ok (acc := acc) (u4 := u4) WO (h r) (by omega)
    have ln : ((wo r).map fun a => (a.1, r)).toList.length ≤ 1 := by cases wo r <;> simp
    obtain ⟨w2, w4, ih⟩ := loopEB WO rus (acc ++ ((wo r).map fun a => (a.1, r)).toList) (.fro (.str (ruS r))) v4 h (by rw [List.length_append]; omega)
    refine ⟨w2, w4, ?_⟩
    rw [List.map_cons, forL, show gN 2 (.str (ruS r)) (envEB ch acc u2 u4) = .ok (envEB ch acc (.fro (.str (ruS r))) u4) from rfl, Res.bind_ok, e, Res.bind_ok]
    show forL (gN 2) _ (rus.map fun r => .str (ruS r)) _ = _
    rw [ih, List.filterMap_cons, List.append_assoc]
    cases wo r <;> rfl
theorem lc_first {ρ0 : Env} {l : List (Int × Ru)} (hl : l.length ≤ 8) (h5 : ρ0[5]? = some .un) (h6 : ρ0[6]? = some .un) : lcL (gT 2 (gsCons (gN 5) (gsCons (gN 6) (gsNil)))) [5, 6] bYes (eVar 5) (l.map rowU) ρ0 [] = .ok (Li (l.map (·.1)), ρ0) := by
  have l5 : 5 < ρ0.length := (List.getElem?_eq_some_iff.mp h5).1
  have l6 : 6 < ρ0.length := (List.getElem?_eq_some_iff.mp h6).1
  rw [lcL_map (fun _ => true) (fun d => match d with | .tup [a, _] => a | _ => .non) (fun d hd => ?_) (by simp; exact sl8 (by omega))]
  · rw [filter_all fun _ _ => rfl, List.nil_append, List.map_map]
    unfold Li
    rw [List.map_map]; rfl
  · obtain ⟨a, _, rfl⟩ := List.mem_map.mp hd
    have hw : wipeE ((ρ0.set 5 (.fro (.int a.1))).set 6 (.fro (.str (ruS a.2)))) [5, 6] = ρ0 := by
      rw [z_wipe_cons, z_wipe_cons, z_wipe_nil]
      apply List.ext_getElem?
      intro k
      by_cases k5 : 5 = k
      · subst k5; rw [List.getElem?_set_self (by simpa using l5), h5]
      · rw [List.getElem?_set_ne k5]
        by_cases k6 : 6 = k
        · subst k6; rw [List.getElem?_set_self (by simpa using l6), h6]
        · rw [List.getElem?_set_ne k6, List.getElem?_set_ne k6, List.getElem?_set_ne k5]
    have g5 : ((ρ0.set 5 (.fro (.int a.1))).set 6 (.fro (.str (ruS a.2))))[5]? = some (.fro (.int a.1)) := by rw [List.getElem?_set_ne (by decide), List.getElem?_set_self l5]
    refine ⟨(ρ0.set 5 (.fro (.int a.1))).set 6 (.fro (.str (ruS a.2))), (ρ0.set 5 (.fro (.int a.1))).set 6 (.fro (.str (ruS a.2))), by simp [rowU], rfl, fun z => absurd z (by simp), fun _ => ⟨.fro (.int a.1), (ρ0.set 5 (.fro (.int a.1))).set 6 (.fro (.str (ruS a.2))), ?_, rfl, hw⟩⟩
    rw [z_eVar, g5]
theorem lc_best {ρ0 : Env} {l : List (Int × Ru)} {k : D} {b : Int → Bool} (hl : l.length ≤ 8) (hb : ∀ i, oEq (.int i) k = .ok (.fro (.bl (b i))) ∨ l = []) (h5 : ρ0[5]? = some .un) (h2 : ρ0[2]? = some .un) (h3 : ρ0[3]? = some (.fro k)) : lcL (gT 2 (gsCons (gN 5) (gsCons (gN 2) (gsNil)))) [5, 2] (bB (e2 oEq (eUse 5) (eUse 3))) (eVar 2) (l.map rowU) ρ0 [] = .ok (((l.filter fun a => b a.1).map (·.2)).map fun r => D.str (ruS r), ρ0) := by
  have l5 : 5 < ρ0.length := (List.getElem?_eq_some_iff.mp h5).1
  have l2 : 2 < ρ0.length := (List.getElem?_eq_some_iff.mp h2).1
  rw [lcL_map (fun d => match d with | .tup [.int i, _] => b i | _ => false) (fun d => match d with | .tup [_, a] => a | _ => .non) (fun d hd => ?_) (by simp; exact sl8 (by omega))]
  · rw [List.nil_append, List.filter_map, List.map_map, List.map_map]; rfl
  · obtain ⟨a, ha, rfl⟩ := List.mem_map.mp hd
    have ho : oEq (.int a.1) k = .ok (.fro (.bl (b a.1))) := by
      rcases hb a.1 with h | h
      · exact h
      · rw [h] at ha; cases ha
    have hw : wipeE ((ρ0.set 5 (.fro (.int a.1))).set 2 (.fro (.str (ruS a.2)))) [5, 2] = ρ0 := by
      rw [z_wipe_cons, z_wipe_cons, z_wipe_nil]
      apply List.ext_getElem?
      intro k
      by_cases k5 : 5 = k
      · subst k5; rw [List.getElem?_set_self (by simpa using l5), h5]
      · rw [List.getElem?_set_ne k5]
        by_cases k6 : 2 = k
        · subst k6; rw [List.getElem?_set_self (by simpa using l2), h2]
        · rw [List.getElem?_set_ne k6, List.getElem?_set_ne k6, List.getElem?_set_ne k5]
    have g5 : ((ρ0.set 5 (.fro (.int a.1))).set 2 (.fro (.str (ruS a.2))))[5]? = some (.fro (.int a.1)) := by rw [List.getElem?_set_ne (by decide), List.getElem?_set_self l5]
    have g2 : ((ρ0.set 5 (.fro (.int a.1))).set 2 (.fro (.str (ruS a.2))))[2]? = some (.fro (.str (ruS a.2))) := List.getElem?_set_self (by simpa using l2)
    have g3 : ((ρ0.set 5 (.fro (.int a.1))).set 2 (.fro (.str (ruS a.2))))[3]? = some (.fro k) := by rw [List.getElem?_set_ne (by decide), List.getElem?_set_ne (by decide)]; exact h3
    refine ⟨(ρ0.set 5 (.fro (.int a.1))).set 2 (.fro (.str (ruS a.2))), (ρ0.set 5 (.fro (.int a.1))).set 2 (.fro (.str (ruS a.2))), by simp [rowU], ?_, fun _ => hw, fun _ => ⟨.fro (.str (ruS a.2)), (ρ0.set 5 (.fro (.int a.1))).set 2 (.fro (.str (ruS a.2))), ?_, rfl, hw⟩⟩
    · simp only [z_bB, z_e2, z_eUse, g5, g3, Res.bind_ok, z_hold_fro, z_deref_fro, Res.of_some, ho]
      rfl
    · rw [z_eVar, g2]
def bestB (C1 WO : Fm) : SF := sCons (sDrop (eCall C1 (aCons (eVar 0) (aNil)))) (sCons (sSet 1 (eLst (aNil))) (sCons (sFor (gN 2) (iData (eC (.tup ((["near", "few", "known"] : List Str).map D.str)))) (bodyEB WO)) (sCons (sSet 3 (e1 oMinDef (eLc (gT 2 (gsCons (gN 5) (gsCons (gN 6) (gsNil)))) [5, 6] (iData (eVar 1)) (bYes) (eVar 5)))) (sRet (eLc (gT 2 (gsCons (gN 5) (gsCons (gN 2) (gsNil)))) [5, 2] (iData (eVar 1)) (bB (e2 oEq (eUse 5) (eUse 3))) (eVar 2))))))
theorem best_rules_is : F_best_rules = runF 1 6 (bestB F_check_map F_worst) := rfl
theorem minDef_ints (l : List Int) : oMinDef (.lst (l.map D.int)) = .ok (.fro (if l.length = 0 then .non else .int (minI l))) := by
  have : D.nums (.lst (l.map D.int)) = some l := by
    show D.ints (l.map D.int) = some l
    induction l with
    | nil => rfl
    | cons a l ih => rw [List.map_cons, D.ints, ih]; rfl
  unfold oMinDef
  rw [this]; rfl
theorem run_own {n m : Nat} {f : SF} {cs : List Cell} {d : D} {ρ' : Env} {ρ0 : Env} (h : f ρ0 = .ok (.ret (.own d), ρ')) (hl : cs.length = n) (hr : cs ++ List.replicate m .un = ρ0) (hp : n ≤ ρ'.length) : runF n m f cs = .ok (.own d, (ρ'.take n).map outC) := by
  unfold runF
  rw [if_pos hl, hr, h, Res.bind_ok, if_pos hp]
theorem w_best {ch : D} {wo : Ru → Most} {l : List (Int × Ru)} {v2 v4 : Cell} (C1 WO : Fm) (h1 : C1 [.fro ch] = .ok (.fro .non, [.un])) (hl : l.length ≤ 8)
    (h2 : forL (gN 2) (bodyEB WO) ([Ru.near, .few, .known].map fun r => .str (ruS r)) (envEB ch [] .un .un) = .ok (.nx, envEB ch l v2 v4)) :
    runF 1 6 (bestB C1 WO) [.fro ch] = .ok (.own (.lst (((l.filter fun a => decide (a.1 = minI (l.map (·.1)))).map (·.2)).map fun r => D.str (ruS r))), [.un]) := by
  have s0 : 0 ≤ sizeLine := Nat.zero_le _
  have e0 : (sDrop (eCall C1 (aCons (eVar 0) (aNil)))) [.fro ch, .un, .un, .un, .un, .un, .un] = .ok (.nx, [.fro ch, .un, .un, .un, .un, .un, .un]) := by simp [h1]
  have e1' : sSet 1 (eLst (aNil)) [.fro ch, .un, .un, .un, .un, .un, .un] = .ok (.nx, envEB ch [] .un .un) := by simp [envEB, s0]
  have e2' : sFor (gN 2) (iData (eC (.tup ((["near", "few", "known"] : List Str).map D.str)))) (bodyEB WO) (envEB ch [] .un .un) = .ok (.nx, envEB ch l v2 v4) := by
    rw [z_sFor, names_is]
    exact h2
  generalize hk : (if (l.map (·.1)).length = 0 then D.non else .int (minI (l.map (·.1)))) = k
  have hm := minDef_ints (l.map (·.1))
  rw [hk] at hm
  have e3 : sSet 3 (e1 oMinDef (eLc (gT 2 (gsCons (gN 5) (gsCons (gN 6) (gsNil)))) [5, 6] (iData (eVar 1)) (bYes) (eVar 5))) (envEB ch l v2 v4) = .ok (.nx, [.fro ch, .fro (.lst (l.map rowU)), v2, .fro k, v4, .un, .un]) := by
    have hc := lc_first (ρ0 := [.fro ch, .fro (.lst (l.map rowU)), v2, .un, v4, .un, .un]) hl rfl rfl
    simp only [Li] at hc
    clear hk e0 e1' e2'
    generalize l.map (·.1) = nl at hc hm
    simp [envEB, hc, hm]
  have e4 : eLc (gT 2 (gsCons (gN 5) (gsCons (gN 2) (gsNil)))) [5, 2] (iData (eVar 1)) (bB (e2 oEq (eUse 5) (eUse 3))) (eVar 2) [.fro ch, .fro (.lst (l.map rowU)), v2, .fro k, v4, .un, .un] = .ok (.own (.lst (((l.filter fun a => decide (a.1 = minI (l.map (·.1)))).map (·.2)).map fun r => D.str (ruS r))), [.fro ch, .fro (.lst (l.map rowU)), .un, .fro k, v4, .un, .un]) := by
    have hc := lc_best (ρ0 := [.fro ch, .fro (.lst (l.map rowU)), .un, .fro k, v4, .un, .un]) (k := k) (b := fun i => decide (i = minI (l.map (·.1)))) hl (fun i => by
      cases l with
      | nil => exact .inr rfl
      | cons a l =>
        left
        rw [if_neg (by simp)] at hk
        subst hk
        rw [z_oEq_int]
        rfl) rfl rfl rfl
    rw [z_eLc]
    have ei : iData (eVar 1) [.fro ch, .fro (.lst (l.map rowU)), v2, .fro k, v4, .un, .un] = .ok (l.map rowU, [.fro ch, .fro (.lst (l.map rowU)), v2, .fro k, v4, .un, .un]) := by simp
    rw [ei, Res.bind_ok]
    show (lcL _ _ _ _ (l.map rowU) [.fro ch, .fro (.lst (l.map rowU)), .un, .fro k, v4, .un, .un] []).bind _ = _
    rw [hc]; rfl
  have key : bestB C1 WO [.fro ch, .un, .un, .un, .un, .un, .un] = .ok (.ret (.own (.lst (((l.filter fun a => decide (a.1 = minI (l.map (·.1)))).map (·.2)).map fun r => D.str (ruS r)))), [.fro ch, .fro (.lst (l.map rowU)), .un, .fro k, v4, .un, .un]) := by
    rw [bestB, z_sCons, e0, Res.bind_ok]
    show sCons _ _ _ = _
    rw [z_sCons, e1', Res.bind_ok]
    show sCons _ _ _ = _
    rw [z_sCons, e2', Res.bind_ok]
    show sCons _ _ _ = _
    rw [z_sCons, e3, Res.bind_ok]
    show sRet _ _ = _
    rw [z_sRet, e4, Res.bind_ok]
  exact run_own (n := 1) (m := 6) (cs := [.fro ch]) key rfl rfl (by show 1 ≤ 7; decide)
theorem m_best_rules (h : p.Ok) : F_best_rules [.fro p.ch] = .ok (.own (.lst ((bestOf p (wsP p)).map fun r => D.str (ruS r))), [.un]) := by
  obtain ⟨v2, v4, e⟩ := loopEB (ch := p.ch) (wo := fun ru => worstOf p (wsP p) ru) F_worst [.near, .few, .known] [] .un .un (fun ru => m_worst h ru) (by decide)
  have ln : (([] : List (Int × Ru)) ++ [Ru.near, .few, .known].filterMap fun ru => (worstOf p (wsP p) ru).map fun a => (a.1, ru)).length ≤ 8 := Nat.le_trans (by rw [List.nil_append]; exact List.length_filterMap_le ..) (by decide)
  exact Eq.trans (congrFun best_rules_is _) (w_best (wo := fun _ => none) F_check_map F_worst (m_check p) ln e)
theorem prog : Prog F_Map___init__ F_walk F_walked F_worst F_best_rules where
  mi := fun p h => m_init h
  wk := fun p h _ W hW ru => ⟨_, m_pwalk h (wsP_ok h W hW) ru, .inl rfl⟩
  wl := fun p h _ W hW ru => m_pwalked h (wsP_ok h W hW) ru
  wo := fun p h _ ru => ⟨_, m_worst h ru, .inl rfl⟩
  br := fun p h _ => ⟨_, m_best_rules h, .inr rfl⟩
end
theorem law_true : ∀ ns : List Int, ns.length ≤ 63 → ∃ cs, F_law [.fro (.scr ns)] = .ok (.fro (.bl true), cs) := fun ns _ => law_of prog ns
end Dt
end

section
set_option Elab.async false
set_option linter.all false
set_option maxRecDepth 100000
set_option maxHeartbeats 4000000
set_option autoImplicit false
namespace Dt
open PySem PySem.Spec PyProof.Rows L2
def adA (K : PySem.W.Frag) : Nat → Addr
  | 0 => He.ga K "_law_number"
  | 1 => He.ga K "_law_plan"
  | 2 => He.ga K "is_integer"
  | 3 => He.ga K "is_within"
  | 4 => He.ga K "_is_triple"
  | 5 => He.ga K "ascends"
  | 6 => He.ga K "are_triples"
  | 7 => He.ga K "are_ends"
  | 8 => He.ma K (He.ga K "Map") "__init__"
  | 9 => He.ga K "_law_some"
  | 10 => He.ga K "_law_at"
  | 11 => He.ga K "_law_over"
  | 12 => He.ga K "_law_far"
  | 13 => He.ga K "_law_few"
  | 14 => He.ga K "_law_rest"
  | 15 => He.ga K "_law_choice"
  | 16 => He.ga K "_law_walk"
  | 17 => He.ga K "check_map"
  | 18 => He.ma K (He.ga K "Map") "__len__"
  | 19 => He.ga K "is_road"
  | 20 => He.ga K "are_roads"
  | 21 => getA K (He.ga K "Map") "most"
  | 22 => He.ga K "is_world"
  | 23 => He.ga K "check_world"
  | 24 => He.ga K "_check_rule"
  | 25 => He.ga K "_check_walk"
  | 26 => getA K (He.ga K "Map") "roads"
  | 27 => He.ga K "roads_at"
  | 28 => He.ga K "_unknown_at"
  | 29 => He.ga K "_state_at"
  | 30 => He.ga K "_arrival_in"
  | 31 => getA K (He.ga K "Map") "ends"
  | 32 => He.ga K "first_state_in"
  | 33 => He.ga K "is_at_goal"
  | 34 => getA K (He.ga K "Map") "places"
  | 35 => He.ga K "_lower"
  | 36 => He.ga K "least_sums"
  | 37 => He.ga K "open_roads"
  | 38 => He.ga K "other_end"
  | 39 => He.ga K "_best_road"
  | 40 => He.ga K "road_lengths"
  | 41 => He.ga K "_next_road"
  | 42 => He.ga K "state_after_in"
  | 43 => He.ga K "_whole_walk"
  | 44 => He.ga K "walk"
  | 45 => He.ga K "walked"
  | 46 => He.ga K "small_sets"
  | 47 => He.ga K "worlds"
  | 48 => He.ga K "worst"
  | 49 => He.ga K "best_rules"
  | 50 => He.ga K "_law_all_right"
  | 51 => He.ga K "law"
  | _ => 0
def adC (K : PySem.W.Frag) : Nat → Addr
  | 0 => He.ga K "Map"
  | _ => 0
def adP (K : PySem.W.Frag) : Nat → Addr
  | 21 => propA K (He.ga K "Map") "most"
  | 26 => propA K (He.ga K "Map") "roads"
  | 31 => propA K (He.ga K "Map") "ends"
  | 34 => propA K (He.ga K "Map") "places"
  | _ => 0
def adK (K : PySem.W.Frag) : Ad := ⟨adA K, fun i => fdY K (adA K i), adC K, adP K, ((0, 0)).1, ((0, 0)).2⟩
def fnL : List DefY := [⟨fun K => adA K 0, "_law_number", "_law_number", st__law_number⟩,
  ⟨fun K => adA K 1, "_law_plan", "_law_plan", st__law_plan⟩,
  ⟨fun K => adA K 2, "is_integer", "is_integer", st_is_integer⟩,
  ⟨fun K => adA K 3, "is_within", "is_within", st_is_within⟩,
  ⟨fun K => adA K 4, "_is_triple", "_is_triple", st__is_triple⟩,
  ⟨fun K => adA K 5, "ascends", "ascends", st_ascends⟩,
  ⟨fun K => adA K 6, "are_triples", "are_triples", st_are_triples⟩,
  ⟨fun K => adA K 7, "are_ends", "are_ends", st_are_ends⟩,
  ⟨fun K => adA K 8, "__init__", "Map.__init__", st_Map___init__⟩,
  ⟨fun K => adA K 9, "_law_some", "_law_some", st__law_some⟩,
  ⟨fun K => adA K 10, "_law_at", "_law_at", st__law_at⟩,
  ⟨fun K => adA K 11, "_law_over", "_law_over", st__law_over⟩,
  ⟨fun K => adA K 12, "_law_far", "_law_far", st__law_far⟩,
  ⟨fun K => adA K 13, "_law_few", "_law_few", st__law_few⟩,
  ⟨fun K => adA K 14, "_law_rest", "_law_rest", st__law_rest⟩,
  ⟨fun K => adA K 15, "_law_choice", "_law_choice", st__law_choice⟩,
  ⟨fun K => adA K 16, "_law_walk", "_law_walk", st__law_walk⟩,
  ⟨fun K => adA K 17, "check_map", "check_map", st_check_map⟩,
  ⟨fun K => adA K 18, "__len__", "Map.__len__", st_Map___len__⟩,
  ⟨fun K => adA K 19, "is_road", "is_road", st_is_road⟩,
  ⟨fun K => adA K 20, "are_roads", "are_roads", st_are_roads⟩,
  ⟨fun K => adA K 21, "most", "Map.most", st_Map_most⟩,
  ⟨fun K => adA K 22, "is_world", "is_world", st_is_world⟩,
  ⟨fun K => adA K 23, "check_world", "check_world", st_check_world⟩,
  ⟨fun K => adA K 24, "_check_rule", "_check_rule", st__check_rule⟩,
  ⟨fun K => adA K 25, "_check_walk", "_check_walk", st__check_walk⟩,
  ⟨fun K => adA K 26, "roads", "Map.roads", st_Map_roads⟩,
  ⟨fun K => adA K 27, "roads_at", "roads_at", st_roads_at⟩,
  ⟨fun K => adA K 28, "_unknown_at", "_unknown_at", st__unknown_at⟩,
  ⟨fun K => adA K 29, "_state_at", "_state_at", st__state_at⟩,
  ⟨fun K => adA K 30, "_arrival_in", "_arrival_in", st__arrival_in⟩,
  ⟨fun K => adA K 31, "ends", "Map.ends", st_Map_ends⟩,
  ⟨fun K => adA K 32, "first_state_in", "first_state_in", st_first_state_in⟩,
  ⟨fun K => adA K 33, "is_at_goal", "is_at_goal", st_is_at_goal⟩,
  ⟨fun K => adA K 34, "places", "Map.places", st_Map_places⟩,
  ⟨fun K => adA K 35, "_lower", "_lower", st__lower⟩,
  ⟨fun K => adA K 36, "least_sums", "least_sums", st_least_sums⟩,
  ⟨fun K => adA K 37, "open_roads", "open_roads", st_open_roads⟩,
  ⟨fun K => adA K 38, "other_end", "other_end", st_other_end⟩,
  ⟨fun K => adA K 39, "_best_road", "_best_road", st__best_road⟩,
  ⟨fun K => adA K 40, "road_lengths", "road_lengths", st_road_lengths⟩,
  ⟨fun K => adA K 41, "_next_road", "_next_road", st__next_road⟩,
  ⟨fun K => adA K 42, "state_after_in", "state_after_in", st_state_after_in⟩,
  ⟨fun K => adA K 43, "_whole_walk", "_whole_walk", st__whole_walk⟩,
  ⟨fun K => adA K 44, "walk", "walk", st_walk⟩,
  ⟨fun K => adA K 45, "walked", "walked", st_walked⟩,
  ⟨fun K => adA K 46, "small_sets", "small_sets", st_small_sets⟩,
  ⟨fun K => adA K 47, "worlds", "worlds", st_worlds⟩,
  ⟨fun K => adA K 48, "worst", "worst", st_worst⟩,
  ⟨fun K => adA K 49, "best_rules", "best_rules", st_best_rules⟩,
  ⟨fun K => adA K 50, "_law_all_right", "_law_all_right", st__law_all_right⟩,
  ⟨fun K => adA K 51, "law", "law", st_law⟩]
def tfL : List He.Defn := []
def faL : List He.Fa := [.free "int", .free "len", .free "sum", .glo "_law_number", .free "range", .free "max", .free "min", .free "sorted", .free "tuple", .glo "_law_plan", .free "isinstance", .free "bool", .glo "is_integer", .glo "is_within", .int "MOST_PLACES" 6, .int "LEAST_PLACES" 2, .int "MOST_ROADS" 8, .int "LONGEST" 9, .glo "_is_triple", .free "all", .free "list", .free "set", .glo "ascends", .glo "are_triples", .glo "are_ends", .int "MOST_SHUT" 3, .mkr "Map", .glo "Map", .glo "_law_some", .glo "RULES", .free "enumerate", .glo "_law_at", .glo "_law_over", .glo "_law_far", .glo "_law_few", .glo "_law_rest", .glo "_law_choice", .glo "_law_walk", .glo "check_map", .glo "is_road", .glo "are_roads", .cls "Map", .glo "is_world", .glo "check_world", .free "str", .glo "_check_rule", .glo "_check_walk", .glo "roads_at", .glo "_unknown_at", .glo "_state_at", .glo "_arrival_in", .glo "first_state_in", .glo "is_at_goal", .glo "_lower", .glo "least_sums", .glo "open_roads", .glo "other_end", .glo "_best_road", .glo "road_lengths", .glo "_next_road", .glo "state_after_in", .glo "_whole_walk", .glo "walk", .glo "walked", .glo "small_sets", .glo "worlds", .glo "worst", .glo "best_rules", .glo "_law_all_right", .glo "law", .noat "Map" "_places", .noat "Map" "_roads", .noat "Map" "_ends", .noat "Map" "_most"]
def exL (K : PySem.W.Frag) : List Bool := [isiB K (adC K) (.type "int") isi_int,
  isiB K (adC K) (.type "bool") isi_bool,
  isiB K (adC K) (.type "tuple") isi_tuple,
  gtupB K (He.ga K "RULES") ["near", "few", "known"],
  isiB K (adC K) (.ref (adC K 0)) isi_Map,
  He.eqO (PySem.W.findIn K (.ref (He.ga K "Map")) "__len__") (some (some (.ref (He.ma K (He.ga K "Map") "__len__")))),
  PySem.W.isFn K (.ref (He.ma K (He.ga K "Map") "__len__")),
  propB K (He.ga K "Map") "most",
  isiB K (adC K) (.type "str") isi_str,
  propB K (He.ga K "Map") "roads",
  propB K (He.ga K "Map") "ends",
  propB K (He.ga K "Map") "places",
  clsIB K (adC K 0)]
def exB (K : PySem.W.Frag) : Bool := (exL K).all id
theorem exAt {K : PySem.W.Frag} (h : exB K = true) (i : Nat) {b : Bool} (e : (exL K)[i]? = some b) : b = true := List.all_eq_true.mp h b (List.mem_of_getElem? e)
theorem tx_of {K : PySem.W.Frag} {h g : Heap} {mg : Str → Option Value} (KX : K.In h) (G : h.Ns mainGlobals mg) (c : SaysY faL fnL tfL exB g K) : Tx K mg (adK K) := by
  have k0 : ClsOk K (tab (adK K)) 0 := ⟨He.cls_ok (c.fact _ (List.mem_of_getElem? (i := 41) rfl)), (List.forall_mem_cons.mpr ⟨He.noat_ok (c.fact _ (List.mem_of_getElem? (i := 70) rfl)), (List.forall_mem_cons.mpr ⟨He.noat_ok (c.fact _ (List.mem_of_getElem? (i := 71) rfl)), (List.forall_mem_cons.mpr ⟨He.noat_ok (c.fact _ (List.mem_of_getElem? (i := 72) rfl)), (List.forall_mem_cons.mpr ⟨He.noat_ok (c.fact _ (List.mem_of_getElem? (i := 73) rfl)), List.forall_mem_nil _⟩)⟩)⟩)⟩), (show (flds 0).Nodup by decide +kernel), (show (flds 0).length ≤ 900 by decide)⟩
  have s0 : ClsI K (adC K 0) := clsIB_ok (He.cls_ok (c.fact _ (List.mem_of_getElem? (i := 41) rfl))) (exAt c.more 12 rfl)
  exact {
    n_int := He.free_ok KX G (c.fact _ (List.mem_of_getElem? (i := 0) rfl))
    n_len := He.free_ok KX G (c.fact _ (List.mem_of_getElem? (i := 1) rfl))
    n_sum := He.free_ok KX G (c.fact _ (List.mem_of_getElem? (i := 2) rfl))
    f0 := (c.def_ _ (List.mem_of_getElem? (i := 0) rfl)).fun_
    b0 := (c.def_ _ (List.mem_of_getElem? (i := 0) rfl)).binds fun _ _ _ _ _ _ us hl => match us, hl with | [_, _], _ => rfl
    g0 := He.glo_ok KX G (c.fact _ (List.mem_of_getElem? (i := 3) rfl))
    n_range := He.free_ok KX G (c.fact _ (List.mem_of_getElem? (i := 4) rfl))
    n_max := He.free_ok KX G (c.fact _ (List.mem_of_getElem? (i := 5) rfl))
    n_min := He.free_ok KX G (c.fact _ (List.mem_of_getElem? (i := 6) rfl))
    n_sorted := He.free_ok KX G (c.fact _ (List.mem_of_getElem? (i := 7) rfl))
    n_tuple := He.free_ok KX G (c.fact _ (List.mem_of_getElem? (i := 8) rfl))
    f1 := (c.def_ _ (List.mem_of_getElem? (i := 1) rfl)).fun_
    b1 := (c.def_ _ (List.mem_of_getElem? (i := 1) rfl)).binds fun _ _ _ _ _ _ us hl => match us, hl with | [_, _, _], _ => rfl
    g1 := He.glo_ok KX G (c.fact _ (List.mem_of_getElem? (i := 9) rfl))
    i_int := isiB_ok (T := tab (adK K)) (fun p hp => by rw [List.mem_singleton.mp hp]; exact s0) (exAt c.more 0 rfl)
    n_isinstance := He.free_ok KX G (c.fact _ (List.mem_of_getElem? (i := 10) rfl))
    i_bool := isiB_ok (T := tab (adK K)) (fun p hp => by rw [List.mem_singleton.mp hp]; exact s0) (exAt c.more 1 rfl)
    n_bool := He.free_ok KX G (c.fact _ (List.mem_of_getElem? (i := 11) rfl))
    f2 := (c.def_ _ (List.mem_of_getElem? (i := 2) rfl)).fun_
    b2 := (c.def_ _ (List.mem_of_getElem? (i := 2) rfl)).binds fun _ _ _ _ _ _ us hl => match us, hl with | [_], _ => rfl
    g2 := He.glo_ok KX G (c.fact _ (List.mem_of_getElem? (i := 12) rfl))
    f3 := (c.def_ _ (List.mem_of_getElem? (i := 3) rfl)).fun_
    b3 := (c.def_ _ (List.mem_of_getElem? (i := 3) rfl)).binds fun _ _ _ _ _ _ us hl => match us, hl with | [_, _, _], _ => rfl
    g3 := He.glo_ok KX G (c.fact _ (List.mem_of_getElem? (i := 13) rfl))
    c_MOST_PLACES := He.int_ok KX G (c.fact _ (List.mem_of_getElem? (i := 14) rfl))
    c_LEAST_PLACES := He.int_ok KX G (c.fact _ (List.mem_of_getElem? (i := 15) rfl))
    i_tuple := isiB_ok (T := tab (adK K)) (fun p hp => by rw [List.mem_singleton.mp hp]; exact s0) (exAt c.more 2 rfl)
    c_MOST_ROADS := He.int_ok KX G (c.fact _ (List.mem_of_getElem? (i := 16) rfl))
    c_LONGEST := He.int_ok KX G (c.fact _ (List.mem_of_getElem? (i := 17) rfl))
    f4 := (c.def_ _ (List.mem_of_getElem? (i := 4) rfl)).fun_
    b4 := (c.def_ _ (List.mem_of_getElem? (i := 4) rfl)).binds fun _ _ _ _ _ _ us hl => match us, hl with | [_, _], _ => rfl
    g4 := He.glo_ok KX G (c.fact _ (List.mem_of_getElem? (i := 18) rfl))
    n_all := He.free_ok KX G (c.fact _ (List.mem_of_getElem? (i := 19) rfl))
    n_list := He.free_ok KX G (c.fact _ (List.mem_of_getElem? (i := 20) rfl))
    n_set := He.free_ok KX G (c.fact _ (List.mem_of_getElem? (i := 21) rfl))
    f5 := (c.def_ _ (List.mem_of_getElem? (i := 5) rfl)).fun_
    b5 := (c.def_ _ (List.mem_of_getElem? (i := 5) rfl)).binds fun _ _ _ _ _ _ us hl => match us, hl with | [_], _ => rfl
    g5 := He.glo_ok KX G (c.fact _ (List.mem_of_getElem? (i := 22) rfl))
    f6 := (c.def_ _ (List.mem_of_getElem? (i := 6) rfl)).fun_
    b6 := (c.def_ _ (List.mem_of_getElem? (i := 6) rfl)).binds fun _ _ _ _ _ _ us hl => match us, hl with | [_, _], _ => rfl
    g6 := He.glo_ok KX G (c.fact _ (List.mem_of_getElem? (i := 23) rfl))
    f7 := (c.def_ _ (List.mem_of_getElem? (i := 7) rfl)).fun_
    b7 := (c.def_ _ (List.mem_of_getElem? (i := 7) rfl)).binds fun _ _ _ _ _ _ us hl => match us, hl with | [_, _], _ => rfl
    g7 := He.glo_ok KX G (c.fact _ (List.mem_of_getElem? (i := 24) rfl))
    c_MOST_SHUT := He.int_ok KX G (c.fact _ (List.mem_of_getElem? (i := 25) rfl))
    t__places := fldOk_of fun p hp => by rw [List.mem_singleton.mp hp]; exact ⟨k0, rfl⟩
    t__roads := fldOk_of fun p hp => by rw [List.mem_singleton.mp hp]; exact ⟨k0, rfl⟩
    t__ends := fldOk_of fun p hp => by rw [List.mem_singleton.mp hp]; exact ⟨k0, rfl⟩
    t__most := fldOk_of fun p hp => by rw [List.mem_singleton.mp hp]; exact ⟨k0, rfl⟩
    f8 := (c.def_ _ (List.mem_of_getElem? (i := 8) rfl)).fun_
    b8 := (c.def_ _ (List.mem_of_getElem? (i := 8) rfl)).binds fun _ _ _ _ _ _ us hl => match us, hl with | [_, _, _, _, _], _ => rfl
    mk0 := He.mkr_ok (c.fact _ (List.mem_of_getElem? (i := 26) rfl))
    gc0 := He.glo_ok KX G (c.fact _ (List.mem_of_getElem? (i := 27) rfl))
    f9 := (c.def_ _ (List.mem_of_getElem? (i := 9) rfl)).fun_
    b9 := (c.def_ _ (List.mem_of_getElem? (i := 9) rfl)).binds fun _ _ _ _ _ _ us hl => match us, hl with | [_, _], _ => rfl
    g9 := He.glo_ok KX G (c.fact _ (List.mem_of_getElem? (i := 28) rfl))
    tc_RULES := gtupB_ok (He.glo_ok KX G (c.fact _ (List.mem_of_getElem? (i := 29) rfl))) (exAt c.more 3 rfl)
    n_enumerate := He.free_ok KX G (c.fact _ (List.mem_of_getElem? (i := 30) rfl))
    f10 := (c.def_ _ (List.mem_of_getElem? (i := 10) rfl)).fun_
    b10 := (c.def_ _ (List.mem_of_getElem? (i := 10) rfl)).binds fun _ _ _ _ _ _ us hl => match us, hl with | [_, _], _ => rfl
    g10 := He.glo_ok KX G (c.fact _ (List.mem_of_getElem? (i := 31) rfl))
    f11 := (c.def_ _ (List.mem_of_getElem? (i := 11) rfl)).fun_
    b11 := (c.def_ _ (List.mem_of_getElem? (i := 11) rfl)).binds fun _ _ _ _ _ _ us hl => match us, hl with | [_, _, _], _ => rfl
    g11 := He.glo_ok KX G (c.fact _ (List.mem_of_getElem? (i := 32) rfl))
    f12 := (c.def_ _ (List.mem_of_getElem? (i := 12) rfl)).fun_
    b12 := (c.def_ _ (List.mem_of_getElem? (i := 12) rfl)).binds fun _ _ _ _ _ _ us hl => match us, hl with | [_, _, _], _ => rfl
    g12 := He.glo_ok KX G (c.fact _ (List.mem_of_getElem? (i := 33) rfl))
    f13 := (c.def_ _ (List.mem_of_getElem? (i := 13) rfl)).fun_
    b13 := (c.def_ _ (List.mem_of_getElem? (i := 13) rfl)).binds fun _ _ _ _ _ _ us hl => match us, hl with | [_, _, _], _ => rfl
    g13 := He.glo_ok KX G (c.fact _ (List.mem_of_getElem? (i := 34) rfl))
    f14 := (c.def_ _ (List.mem_of_getElem? (i := 14) rfl)).fun_
    b14 := (c.def_ _ (List.mem_of_getElem? (i := 14) rfl)).binds fun _ _ _ _ _ _ us hl => match us, hl with | [_, _, _, _, _], _ => rfl
    g14 := He.glo_ok KX G (c.fact _ (List.mem_of_getElem? (i := 35) rfl))
    f15 := (c.def_ _ (List.mem_of_getElem? (i := 15) rfl)).fun_
    b15 := (c.def_ _ (List.mem_of_getElem? (i := 15) rfl)).binds fun _ _ _ _ _ _ us hl => match us, hl with | [_, _, _, _, _], _ => rfl
    g15 := He.glo_ok KX G (c.fact _ (List.mem_of_getElem? (i := 36) rfl))
    f16 := (c.def_ _ (List.mem_of_getElem? (i := 16) rfl)).fun_
    b16 := (c.def_ _ (List.mem_of_getElem? (i := 16) rfl)).binds fun _ _ _ _ _ _ us hl => match us, hl with | [_, _, _], _ => rfl
    g16 := He.glo_ok KX G (c.fact _ (List.mem_of_getElem? (i := 37) rfl))
    i_Map := isiB_ok (T := tab (adK K)) (fun p hp => by rw [List.mem_singleton.mp hp]; exact s0) (exAt c.more 4 rfl)
    f17 := (c.def_ _ (List.mem_of_getElem? (i := 17) rfl)).fun_
    b17 := (c.def_ _ (List.mem_of_getElem? (i := 17) rfl)).binds fun _ _ _ _ _ _ us hl => match us, hl with | [_], _ => rfl
    g17 := He.glo_ok KX G (c.fact _ (List.mem_of_getElem? (i := 38) rfl))
    f18 := (c.def_ _ (List.mem_of_getElem? (i := 18) rfl)).fun_
    b18 := (c.def_ _ (List.mem_of_getElem? (i := 18) rfl)).binds fun _ _ _ _ _ _ us hl => match us, hl with | [_], _ => rfl
    ln0 := He.eqO_ok (exAt c.more 5 rfl)
    lf0 := (exAt c.more 6 rfl)
    f19 := (c.def_ _ (List.mem_of_getElem? (i := 19) rfl)).fun_
    b19 := (c.def_ _ (List.mem_of_getElem? (i := 19) rfl)).binds fun _ _ _ _ _ _ us hl => match us, hl with | [_, _], _ => rfl
    g19 := He.glo_ok KX G (c.fact _ (List.mem_of_getElem? (i := 39) rfl))
    f20 := (c.def_ _ (List.mem_of_getElem? (i := 20) rfl)).fun_
    b20 := (c.def_ _ (List.mem_of_getElem? (i := 20) rfl)).binds fun _ _ _ _ _ _ us hl => match us, hl with | [_, _], _ => rfl
    g20 := He.glo_ok KX G (c.fact _ (List.mem_of_getElem? (i := 40) rfl))
    f21 := (c.def_ _ (List.mem_of_getElem? (i := 21) rfl)).fun_
    b21 := (c.def_ _ (List.mem_of_getElem? (i := 21) rfl)).binds fun _ _ _ _ _ _ us hl => match us, hl with | [_], _ => rfl
    cl0 := He.cls_ok (c.fact _ (List.mem_of_getElem? (i := 41) rfl))
    p21 := propB_ok (exAt c.more 7 rfl)
    f22 := (c.def_ _ (List.mem_of_getElem? (i := 22) rfl)).fun_
    b22 := (c.def_ _ (List.mem_of_getElem? (i := 22) rfl)).binds fun _ _ _ _ _ _ us hl => match us, hl with | [_, _], _ => rfl
    g22 := He.glo_ok KX G (c.fact _ (List.mem_of_getElem? (i := 42) rfl))
    f23 := (c.def_ _ (List.mem_of_getElem? (i := 23) rfl)).fun_
    b23 := (c.def_ _ (List.mem_of_getElem? (i := 23) rfl)).binds fun _ _ _ _ _ _ us hl => match us, hl with | [_, _], _ => rfl
    g23 := He.glo_ok KX G (c.fact _ (List.mem_of_getElem? (i := 43) rfl))
    i_str := isiB_ok (T := tab (adK K)) (fun p hp => by rw [List.mem_singleton.mp hp]; exact s0) (exAt c.more 8 rfl)
    n_str := He.free_ok KX G (c.fact _ (List.mem_of_getElem? (i := 44) rfl))
    f24 := (c.def_ _ (List.mem_of_getElem? (i := 24) rfl)).fun_
    b24 := (c.def_ _ (List.mem_of_getElem? (i := 24) rfl)).binds fun _ _ _ _ _ _ us hl => match us, hl with | [_], _ => rfl
    g24 := He.glo_ok KX G (c.fact _ (List.mem_of_getElem? (i := 45) rfl))
    f25 := (c.def_ _ (List.mem_of_getElem? (i := 25) rfl)).fun_
    b25 := (c.def_ _ (List.mem_of_getElem? (i := 25) rfl)).binds fun _ _ _ _ _ _ us hl => match us, hl with | [_, _, _], _ => rfl
    g25 := He.glo_ok KX G (c.fact _ (List.mem_of_getElem? (i := 46) rfl))
    f26 := (c.def_ _ (List.mem_of_getElem? (i := 26) rfl)).fun_
    b26 := (c.def_ _ (List.mem_of_getElem? (i := 26) rfl)).binds fun _ _ _ _ _ _ us hl => match us, hl with | [_], _ => rfl
    p26 := propB_ok (exAt c.more 9 rfl)
    f27 := (c.def_ _ (List.mem_of_getElem? (i := 27) rfl)).fun_
    b27 := (c.def_ _ (List.mem_of_getElem? (i := 27) rfl)).binds fun _ _ _ _ _ _ us hl => match us, hl with | [_, _], _ => rfl
    g27 := He.glo_ok KX G (c.fact _ (List.mem_of_getElem? (i := 47) rfl))
    f28 := (c.def_ _ (List.mem_of_getElem? (i := 28) rfl)).fun_
    b28 := (c.def_ _ (List.mem_of_getElem? (i := 28) rfl)).binds fun _ _ _ _ _ _ us hl => match us, hl with | [_, _, _, _], _ => rfl
    g28 := He.glo_ok KX G (c.fact _ (List.mem_of_getElem? (i := 48) rfl))
    f29 := (c.def_ _ (List.mem_of_getElem? (i := 29) rfl)).fun_
    b29 := (c.def_ _ (List.mem_of_getElem? (i := 29) rfl)).binds fun _ _ _ _ _ _ us hl => match us, hl with | [_, _, _, _, _], _ => rfl
    g29 := He.glo_ok KX G (c.fact _ (List.mem_of_getElem? (i := 49) rfl))
    f30 := (c.def_ _ (List.mem_of_getElem? (i := 30) rfl)).fun_
    b30 := (c.def_ _ (List.mem_of_getElem? (i := 30) rfl)).binds fun _ _ _ _ _ _ us hl => match us, hl with | [_, _, _, _, _], _ => rfl
    g30 := He.glo_ok KX G (c.fact _ (List.mem_of_getElem? (i := 50) rfl))
    f31 := (c.def_ _ (List.mem_of_getElem? (i := 31) rfl)).fun_
    b31 := (c.def_ _ (List.mem_of_getElem? (i := 31) rfl)).binds fun _ _ _ _ _ _ us hl => match us, hl with | [_], _ => rfl
    p31 := propB_ok (exAt c.more 10 rfl)
    f32 := (c.def_ _ (List.mem_of_getElem? (i := 32) rfl)).fun_
    b32 := (c.def_ _ (List.mem_of_getElem? (i := 32) rfl)).binds fun _ _ _ _ _ _ us hl => match us, hl with | [_, _], _ => rfl
    g32 := He.glo_ok KX G (c.fact _ (List.mem_of_getElem? (i := 51) rfl))
    f33 := (c.def_ _ (List.mem_of_getElem? (i := 33) rfl)).fun_
    b33 := (c.def_ _ (List.mem_of_getElem? (i := 33) rfl)).binds fun _ _ _ _ _ _ us hl => match us, hl with | [_, _], _ => rfl
    g33 := He.glo_ok KX G (c.fact _ (List.mem_of_getElem? (i := 52) rfl))
    f34 := (c.def_ _ (List.mem_of_getElem? (i := 34) rfl)).fun_
    b34 := (c.def_ _ (List.mem_of_getElem? (i := 34) rfl)).binds fun _ _ _ _ _ _ us hl => match us, hl with | [_], _ => rfl
    p34 := propB_ok (exAt c.more 11 rfl)
    f35 := (c.def_ _ (List.mem_of_getElem? (i := 35) rfl)).fun_
    b35 := (c.def_ _ (List.mem_of_getElem? (i := 35) rfl)).binds fun _ _ _ _ _ _ us hl => match us, hl with | [_, _, _, _], _ => rfl
    g35 := He.glo_ok KX G (c.fact _ (List.mem_of_getElem? (i := 53) rfl))
    f36 := (c.def_ _ (List.mem_of_getElem? (i := 36) rfl)).fun_
    b36 := (c.def_ _ (List.mem_of_getElem? (i := 36) rfl)).binds fun _ _ _ _ _ _ us hl => match us, hl with | [_, _, _, _], _ => rfl
    g36 := He.glo_ok KX G (c.fact _ (List.mem_of_getElem? (i := 54) rfl))
    f37 := (c.def_ _ (List.mem_of_getElem? (i := 37) rfl)).fun_
    b37 := (c.def_ _ (List.mem_of_getElem? (i := 37) rfl)).binds fun _ _ _ _ _ _ us hl => match us, hl with | [_, _], _ => rfl
    g37 := He.glo_ok KX G (c.fact _ (List.mem_of_getElem? (i := 55) rfl))
    f38 := (c.def_ _ (List.mem_of_getElem? (i := 38) rfl)).fun_
    b38 := (c.def_ _ (List.mem_of_getElem? (i := 38) rfl)).binds fun _ _ _ _ _ _ us hl => match us, hl with | [_, _, _], _ => rfl
    g38 := He.glo_ok KX G (c.fact _ (List.mem_of_getElem? (i := 56) rfl))
    f39 := (c.def_ _ (List.mem_of_getElem? (i := 39) rfl)).fun_
    b39 := (c.def_ _ (List.mem_of_getElem? (i := 39) rfl)).binds fun _ _ _ _ _ _ us hl => match us, hl with | [_, _, _, _], _ => rfl
    g39 := He.glo_ok KX G (c.fact _ (List.mem_of_getElem? (i := 57) rfl))
    f40 := (c.def_ _ (List.mem_of_getElem? (i := 40) rfl)).fun_
    b40 := (c.def_ _ (List.mem_of_getElem? (i := 40) rfl)).binds fun _ _ _ _ _ _ us hl => match us, hl with | [_], _ => rfl
    g40 := He.glo_ok KX G (c.fact _ (List.mem_of_getElem? (i := 58) rfl))
    f41 := (c.def_ _ (List.mem_of_getElem? (i := 41) rfl)).fun_
    b41 := (c.def_ _ (List.mem_of_getElem? (i := 41) rfl)).binds fun _ _ _ _ _ _ us hl => match us, hl with | [_, _, _], _ => rfl
    g41 := He.glo_ok KX G (c.fact _ (List.mem_of_getElem? (i := 59) rfl))
    f42 := (c.def_ _ (List.mem_of_getElem? (i := 42) rfl)).fun_
    b42 := (c.def_ _ (List.mem_of_getElem? (i := 42) rfl)).binds fun _ _ _ _ _ _ us hl => match us, hl with | [_, _, _, _], _ => rfl
    g42 := He.glo_ok KX G (c.fact _ (List.mem_of_getElem? (i := 60) rfl))
    f43 := (c.def_ _ (List.mem_of_getElem? (i := 43) rfl)).fun_
    b43 := (c.def_ _ (List.mem_of_getElem? (i := 43) rfl)).binds fun _ _ _ _ _ _ us hl => match us, hl with | [_, _, _], _ => rfl
    g43 := He.glo_ok KX G (c.fact _ (List.mem_of_getElem? (i := 61) rfl))
    f44 := (c.def_ _ (List.mem_of_getElem? (i := 44) rfl)).fun_
    b44 := (c.def_ _ (List.mem_of_getElem? (i := 44) rfl)).binds fun _ _ _ _ _ _ us hl => match us, hl with | [_, _, _], _ => rfl
    g44 := He.glo_ok KX G (c.fact _ (List.mem_of_getElem? (i := 62) rfl))
    f45 := (c.def_ _ (List.mem_of_getElem? (i := 45) rfl)).fun_
    b45 := (c.def_ _ (List.mem_of_getElem? (i := 45) rfl)).binds fun _ _ _ _ _ _ us hl => match us, hl with | [_, _, _], _ => rfl
    g45 := He.glo_ok KX G (c.fact _ (List.mem_of_getElem? (i := 63) rfl))
    f46 := (c.def_ _ (List.mem_of_getElem? (i := 46) rfl)).fun_
    b46 := (c.def_ _ (List.mem_of_getElem? (i := 46) rfl)).binds fun _ _ _ _ _ _ us hl => match us, hl with | [_, _], _ => rfl
    g46 := He.glo_ok KX G (c.fact _ (List.mem_of_getElem? (i := 64) rfl))
    f47 := (c.def_ _ (List.mem_of_getElem? (i := 47) rfl)).fun_
    b47 := (c.def_ _ (List.mem_of_getElem? (i := 47) rfl)).binds fun _ _ _ _ _ _ us hl => match us, hl with | [_], _ => rfl
    g47 := He.glo_ok KX G (c.fact _ (List.mem_of_getElem? (i := 65) rfl))
    f48 := (c.def_ _ (List.mem_of_getElem? (i := 48) rfl)).fun_
    b48 := (c.def_ _ (List.mem_of_getElem? (i := 48) rfl)).binds fun _ _ _ _ _ _ us hl => match us, hl with | [_, _], _ => rfl
    g48 := He.glo_ok KX G (c.fact _ (List.mem_of_getElem? (i := 66) rfl))
    f49 := (c.def_ _ (List.mem_of_getElem? (i := 49) rfl)).fun_
    b49 := (c.def_ _ (List.mem_of_getElem? (i := 49) rfl)).binds fun _ _ _ _ _ _ us hl => match us, hl with | [_], _ => rfl
    g49 := He.glo_ok KX G (c.fact _ (List.mem_of_getElem? (i := 67) rfl))
    f50 := (c.def_ _ (List.mem_of_getElem? (i := 50) rfl)).fun_
    b50 := (c.def_ _ (List.mem_of_getElem? (i := 50) rfl)).binds fun _ _ _ _ _ _ us hl => match us, hl with | [_], _ => rfl
    g50 := He.glo_ok KX G (c.fact _ (List.mem_of_getElem? (i := 68) rfl))
    f51 := (c.def_ _ (List.mem_of_getElem? (i := 51) rfl)).fun_
    b51 := (c.def_ _ (List.mem_of_getElem? (i := 51) rfl)).binds fun _ _ _ _ _ _ us hl => match us, hl with | [_], _ => rfl
    g51 := He.glo_ok KX G (c.fact _ (List.mem_of_getElem? (i := 69) rfl)) }
abbrev R0 : PySem.W.OpenRow := PySem.W.OpenLaw.row PySem.Challenge.rw_shutroads_k33_whole_walkers
def loose : List Str := (["__name__", "RoadError", "BadMap", "BadWorld", "BadRule", "LEAST_PLACES", "MOST_PLACES", "MOST_ROADS", "LONGEST", "MOST_SHUT", "Map", "is_integer", "is_within", "ascends", "_is_triple", "are_triples", "are_ends", "is_road", "are_roads", "is_world", "check_map", "check_world", "roads_at", "other_end", "small_sets", "worlds", "_lower", "road_lengths", "least_sums", "is_at_goal"] : List Str) ++ (["_unknown_at", "_state_at", "_arrival_in", "open_roads", "first_state_in", "state_after_in", "RULES", "_best_road", "_next_road", "_whole_walk", "_check_rule", "_check_walk", "walk", "walked", "worst", "best_rules", "_law_number", "_law_plan", "_law_at", "_law_over", "_law_some", "_law_far", "_law_few", "_law_rest", "_law_choice", "_law_walk", "_law_all_right"] : List Str)
abbrev hk : PySem.W.Hook := hookY 6 faL fnL tfL exB
def ob (s : PySem.W.SharedT) : AlY := obsY 6 faL fnL tfL exB (HandSHeadRun.getT s)
theorem ob_eq (s : PySem.W.SharedT) : ob s = hk.obs s.abs := obsY_eq (HandSHeadRun.getT_eq s)
theorem run (w : World) : HandSHeadRun.RunEq R0 (PySem.W.view R0.prog [61]) hk ob 20000 loose w := by
  intro os
  kernel_rfl
theorem law_at (M : ∀ ns : List Int, ns.length ≤ 63 → ∃ cs, F_law [.fro (.scr ns)] = .ok (.fro (.bl true), cs)) {w : World} {K : PySem.W.Frag} {mg : Str → Option Value} {fa : Addr} {h : Heap} (KX : K.In h) (G : h.Ns mainGlobals mg) (hfa : mg ("law" : Str) = some (.ref fa)) (c : SaysY faL fnL tfL exB h K) :
    LamX.LawAtS PySem.Challenge.rw_shutroads_k33_whole_walkers w K CX0 12 63 "_law_script" mg fa h := by
  have X := tx_of KX G c
  have e := hfa.symm.trans X.g51
  cases e
  refine ⟨(adK K).d 51, tfL.map (He.cT K), SpF K (tab (adK K)) F_law, fun p hp => ?_, fun p hp => ?_, fun p hp => ?_, fun s u => (c.def_ _ (List.mem_of_getElem? (i := 51) rfl)).bindsA (ps := ["_law_script"]) (fun _ _ _ _ _ _ us hl => match us, hl with | [_], _ => rfl) s [u] rfl, fun H a ns hl _ hH hS => ?_, fun base hb hg TB => ?_⟩
  · obtain ⟨q, hq, rfl⟩ := List.mem_map.mp hp
    exact c.empty q hq
  · obtain ⟨q, hq, rfl⟩ := List.mem_map.mp hp
    exact c.out q hq
  · obtain ⟨q, hq, rfl⟩ := List.mem_map.mp hp
    exact PySem.W.codeHd_of_K KX (c.hd q hq)
  · obtain ⟨cs, e⟩ := M ns hl
    refine law_sp (fun p hp => ?_) hS e
    cases hp
  · exact ok_law X trivial
end Dt
end

set_option Elab.async false
set_option linter.all false
open PySem PySem.W PySem.Calls PyProof.Rows in
set_option maxRecDepth 100000 in
set_option maxHeartbeats 0 in
theorem PySem.Challenge.cw_shutroads_k33_whole_walkers_holds : PySem.Challenge.rw_shutroads_k33_whole_walkers.Holds := by
  w_on; o_law
  refine HandSHeadRun.head_any (r := OpenLaw.row PySem.Challenge.rw_shutroads_k33_whole_walkers) (q := view (OpenLaw.row PySem.Challenge.rw_shutroads_k33_whole_walkers).prog [61]) (H := Dt.hk) (ob := Dt.ob) (M := 20000) (loose := Dt.loose) (d := HandSHeadRun.topDef (OpenLaw.row PySem.Challenge.rw_shutroads_k33_whole_walkers).prog 61) (kwd := []) Dt.ob_eq
    (by kernel_rfl) (fun s => by kernel_rfl) Dt.run (by kernel_rfl) (by kernel_rfl) (by kernel_rfl) (by rfl) (by first | assumption | decide +kernel) (by decide +kernel) ⟨rfl, rfl, rfl, rfl, rfl, by decide +kernel⟩ ?hw ?hc
  case hw => w_witness2
  case hc =>
    refine LamX.walk_ofTsE (l := PySem.Challenge.rw_shutroads_k33_whole_walkers) (n := 63) (k := 12) (x := "_law_script") (CX := fun _ => L2.CX0) rfl (by decide) (by kernel_rfl) ⟨rfl, by decide, by decide⟩ ?F (fun _ _ _ _ _ z => z)
    intro w mg fa h Y G hmg0
    obtain ⟨K, KX, c⟩ := Y
    have hmg : mg ("law" : PySem.Str) = some (.ref fa) := by
      have e : (HandSHeadRun.topDef (OpenLaw.row PySem.Challenge.rw_shutroads_k33_whole_walkers).prog 61).name = ("law" : PySem.Str) := by kernel_rfl
      rw [← e]
      exact hmg0
    exact ⟨K, KX, Dt.law_at Dt.law_true KX G hmg c⟩
