import PyProof.Rows.All
import HandS.ForMost
import HandS.Wide
import HandS.Flow
import HandS.SortInts
import HandS.IsInst
import HandS.Deep
import HandS.Lambda
import HandS.ForExc
import HandS.TupAny
import HandS.CallSlots
import HandS.Words
import HandS.WordsExc
import HandS.Defaults
import Wide.All
import OpenK.AllK
import Wide.FinOn
import PyProof.ZipIter
import HandS.Zip0
import HandS.Zip
import HandS.Iter
import HandS.Walk
import HandS.TryOnly
import HandS.Style
import HandS.Conv
import HandS.TupLe
import PyProof.Rows.ListMul
import PyProof.Rows.SeqMore
import HandS.SlotsOwn
import HandS.Ends
import PyProof.EqAt
import PyProof.EqKinds
import PyProof.TupleCall
import Open.SpecLaws
import KE.OsGo
import HandS.ForSpec
import HandS.TryMany
import HandS.EndTab
import HandS.EndBits
import KE.KNest
import HandS.RaiseMore
import PyProof.ReprRoads
import HandS.Star
import HandS.SetFor
import HandS.Strs
import HandS.CallLocal
import KE.KCallOwn
import PyProof.InstNe
import HandS.OwnEq
import PyProof.FactsAll.object_2
import PySem.Challenge.RW_risingday_k02_maps_asked
set_option Elab.async false
set_option linter.all false
set_option maxRecDepth 100000
set_option maxHeartbeats 2000000
namespace Mp
open PySem L2
/-- a value as a tree: what is built once and not changed any more -/
inductive D where
  | non | bl (b : Bool) | int (i : Int) | str (s : Str)
  | lst (ds : List D) | tup (ds : List D)
  | obj (C : Str) (ns : List Str) (ds : List D)
  | raw (v : V)
  | dct | fn (x : Str)
abbrev AS := Addr → Prop
/-- where a class of the module stands -/
def clsAt (K : PySem.W.Frag) (x : Str) : Addr := match PySem.W.nsIn K mainGlobals x with
  | some (some (.ref a)) => a
  | _ => 0
theorem clsAt_of {K : PySem.W.Frag} {x : Str} {a : Addr} (h : PySem.W.nsIn K mainGlobals x = some (some (.ref a))) : clsAt K x = a := by unfold clsAt; rw [h]
/-- a list of the module's own top -/
def Wr (K : PySem.W.Frag) (a : Addr) (xs : List V) : Prop := ∃ (o : Obj) (its : Array Value) (n : Nat), K.lookup a = some o ∧ o.cls = .type "list" ∧ o.dict = none ∧ o.data = .seq its n ∧ its.size ≤ sizeLine ∧ Vals xs its.toList
def RdK (K : PySem.W.Frag) (H : Hp) (M : AS) (a : Addr) (xs : List V) : Prop := (¬ M a ∧ Rd H a (.lst xs)) ∨ Wr K a xs
mutual
/-- v shows d in H, by no address of M -/
def Rep (K : PySem.W.Frag) (H : Hp) (M : AS) : D → V → Prop
  | .non, v => v = .non
  | .bl b, v => v = .bl b
  | .int i, v => v = .int i
  | .str s, v => v = .str s
  | .raw w, v => v = w
  | .dct, v => ∃ a, v = .ref a ∧ ¬ M a ∧ H a = some (.dK [])
  | .fn x, v => v = .ref (clsAt K x)
  | .lst ds, v => ∃ a xs, v = .ref a ∧ RdK K H M a xs ∧ RepL K H M ds xs
  | .tup ds, v => ∃ a xs, v = .ref a ∧ ¬ M a ∧ Rd H a (.tup xs) ∧ RepL K H M ds xs
  | .obj C ns ds, v => ∃ a dx xs, v = .ref a ∧ ¬ M a ∧ H a = some (.ins (clsAt K C) dx (ns.zip xs)) ∧ ns.length = xs.length ∧ RepL K H M ds xs
def RepL (K : PySem.W.Frag) (H : Hp) (M : AS) : List D → List V → Prop
  | [], xs => xs = []
  | d :: ds, xs => ∃ x ys, xs = x :: ys ∧ Rep K H M d x ∧ RepL K H M ds ys
end
/-- the tables of code objects of the program's defs, with the names of their lambdas -/
class TabsW where
  T : List (Addr × Str)
/-- no table of code objects -/
def NT (o : HO) : Prop := ∀ ps, o ≠ .tbl ps
/-- neither a table nor a code object -/
structure Pl (o : HO) : Prop where
  nt : NT o
  nx : ∀ c q, o ≠ LamX.CodeO c q
theorem nt_dK {xs : List (Key × V)} : NT (.dK xs) := fun _ z => by cases z
theorem nt_lst {xs : List V} : NT (.lst xs) := fun _ z => by cases z
theorem nt_tup {xs : List V} : NT (.tup xs) := fun _ z => by cases z
theorem nt_ins {C : Addr} {d : Addr} {xs : List (Str × V)} : NT (.ins C d xs) := fun _ z => by cases z
theorem pl_lst {xs : List V} : Pl (.lst xs) := ⟨nt_lst, fun _ _ z => by unfold LamX.CodeO at z; cases z⟩
theorem pl_ins {C : Addr} {d : Addr} {xs : List (Str × V)} : Pl (.ins C d xs) := ⟨nt_ins, fun _ _ z => by unfold LamX.CodeO at z; cases z⟩
/-- something stands there that is no table of code objects -/
def Lv (H : Hp) (a : Addr) : Prop := ∃ o, H a = some o ∧ NT o
theorem Lv.ne {H : Hp} {a : Addr} (h : Lv H a) : H a ≠ none := fun z => by obtain ⟨o, e, _⟩ := h; rw [e] at z; cases z
theorem nn_of {H : Hp} {a : Addr} (h : H a = none) : ¬ Lv H a := fun z => z.ne h
theorem Lv.lst {H : Hp} {a : Addr} {xs : List V} (h : H a = some (.lst xs)) : Lv H a := ⟨_, h, nt_lst⟩
theorem Lv.dK {H : Hp} {a : Addr} {xs : List (Key × V)} (h : H a = some (.dK xs)) : Lv H a := ⟨_, h, nt_dK⟩
theorem Lv.ins {H : Hp} {a C d : Addr} {xs : List (Str × V)} (h : H a = some (.ins C d xs)) : Lv H a := ⟨_, h, nt_ins⟩
variable [TabsW]
/-- outside M all stands as it stood; tables of code objects may grow -/
structure Stp (M : AS) (H H' : Hp) : Prop where
  st : ∀ a o, H a = some o → ¬ M a → NT o → H' a = some o
  mo : ∀ a, Lv H a → Lv H' a
  tb : ∀ P q, (P, q) ∈ TabsW.T → LamX.TabS H P q → LamX.TabS H' P q
theorem Stp.refl {M : AS} {H : Hp} : Stp M H H := ⟨fun _ _ h _ _ => h, fun _ h => h, fun _ _ _ h => h⟩
theorem Stp.trans {M : AS} {H H1 H2 : Hp} (a : Stp M H H1) (b : Stp M H1 H2) : Stp M H H2 := ⟨fun x o h n t => b.st x o (a.st x o h n t) n t, fun x h => b.mo x (a.mo x h), fun P q m h => b.tb P q m (a.tb P q m h)⟩
theorem Stp.weak {M M' : AS} {H H' : Hp} (a : Stp M H H') (h : ∀ x, M x → M' x) : Stp M' H H' := ⟨fun x o e n t => a.st x o e (fun q => n (h x q)) t, a.mo, a.tb⟩
theorem mo_upd {H : Hp} {p : Addr} {o : HO} (ho : NT o) : ∀ a, Lv H a → Lv (upd H p o) a := fun a h => by
  by_cases e : a = p
  · rw [e]; exact ⟨o, upd_same, ho⟩
  · obtain ⟨u, h1, h2⟩ := h; exact ⟨u, by rw [upd_ne e]; exact h1, h2⟩
theorem mo_new {H : Hp} {p : Addr} {o : HO} (hp : H p = none) : ∀ a, Lv H a → Lv (upd H p o) a := fun a h => by
  obtain ⟨u, h1, h2⟩ := h; exact ⟨u, by rw [upd_ne (ne_of_none h1 hp)]; exact h1, h2⟩
theorem tab_upd {H : Hp} {p : Addr} {o : HO} (hp : ∀ u, H p = some u → Pl u) : ∀ P q, LamX.TabS H P q → LamX.TabS (upd H p o) P q := by
  rintro P q ⟨ps, h1, h2, h3⟩
  have n1 : P ≠ p := fun z => by subst z; exact (hp _ h1).nt ps rfl
  refine ⟨ps, by rw [upd_ne n1]; exact h1, h2, fun pos cv hc => ?_⟩
  obtain ⟨c, e1, e2⟩ := h3 pos cv hc
  have n2 : c ≠ p := fun z => by subst z; exact (hp _ e2).nx _ _ rfl
  exact ⟨c, e1, by rw [upd_ne n2]; exact e2⟩
theorem Stp.new {M : AS} {H : Hp} {p : Addr} {o : HO} (h : H p = none) : Stp M H (upd H p o) := ⟨fun a u e _ _ => by
  rw [upd_ne (ne_of_none e h)]
  exact e, mo_new h, fun P q _ => tab_upd (fun u z => by rw [h] at z; cases z) P q⟩
theorem Stp.set {M : AS} {H : Hp} {p : Addr} {o : HO} (h : M p) (hp : ∀ u, H p = some u → Pl u) (ho : NT o := by first | exact nt_lst | exact nt_ins | exact nt_tup) : Stp M H (upd H p o) := ⟨fun a u e n _ => by
  rw [upd_ne (fun z => n (by rw [z]; exact h))]
  exact e, mo_upd ho, fun P q _ => tab_upd hp P q⟩
/-- a list stands there -/
theorem pl_at {H : Hp} {p : Addr} {xs : List V} (h : H p = some (.lst xs)) : ∀ u, H p = some u → Pl u := fun u z => by rw [h] at z; cases z; exact pl_lst
theorem pl_ati {H : Hp} {p : Addr} {C : Addr} {d : Addr} {xs : List (Str × V)} (h : H p = some (.ins C d xs)) : ∀ u, H p = some u → Pl u := fun u z => by rw [h] at z; cases z; exact pl_ins
theorem Rd.stp {M : AS} {H H' : Hp} {a : Addr} {u : HO} (e : Stp M H H') (n : ¬ M a) (nu : NT u) (h : Rd H a u) : Rd H' a u := by
  rcases h with h | ⟨o, h⟩
  · exact .inl (e.st _ _ h n nu)
  · exact .inr ⟨o, e.st _ _ h n (fun _ z => by cases z)⟩
theorem Rd.ne {H : Hp} {a : Addr} {u : HO} (h : Rd H a u) (nu : NT u) : Lv H a := by
  rcases h with h | ⟨o, h⟩
  · exact ⟨u, h, nu⟩
  · exact ⟨_, h, fun _ z => by cases z⟩
theorem Rd.l {K : PySem.W.Frag} {H : Hp} {a : Addr} {xs : List V} (h : Rd H a (.lst xs)) : SqL K H a xs := .inl h
theorem Rd.t {K : PySem.W.Frag} {H : Hp} {a : Addr} {xs : List V} (h : Rd H a (.tup xs)) : SqT K H a xs := .inl h
section
variable {K : PySem.W.Frag} {H H' : Hp} {M M' : AS}
theorem RdK.l {a : Addr} {xs : List V} (h : RdK K H M a xs) : SqL K H a xs := h.elim (fun q => .inl q.2) .inr
theorem RdK.ofS {a : Addr} {xs : List V} (n : ¬ M a) (h : SqL K H a xs) : RdK K H M a xs := h.elim (fun q => .inl ⟨n, q⟩) .inr
theorem RdK.stp {a : Addr} {xs : List V} (e : Stp M H H') (m : ∀ x, M' x → M x) (h : RdK K H M a xs) : RdK K H' M' a xs := h.elim (fun q => .inl ⟨fun z => q.1 (m a z), Rd.stp e q.1 nt_lst q.2⟩) .inr
theorem RdK.grow {a : Addr} {xs : List V} (m : ∀ x, M' x → M x ∨ ¬ Lv H x) (h : RdK K H M a xs) : RdK K H M' a xs := h.elim (fun q => .inl ⟨fun z => (m a z).elim q.1 fun w => w (Rd.ne q.2 nt_lst), q.2⟩) .inr
mutual
theorem Rep.stp (e : Stp M H H') (m : ∀ x, M' x → M x) : ∀ (d : D) (v : V), Rep K H M d v → Rep K H' M' d v
  | .non, v, h => by unfold Rep at h ⊢; exact h
  | .bl b, v, h => by unfold Rep at h ⊢; exact h
  | .int i, v, h => by unfold Rep at h ⊢; exact h
  | .str s, v, h => by unfold Rep at h ⊢; exact h
  | .raw w, v, h => by unfold Rep at h ⊢; exact h
  | .fn x, v, h => by unfold Rep at h ⊢; exact h
  | .dct, v, h => by
    unfold Rep at h ⊢
    obtain ⟨a, rfl, n, q⟩ := h
    exact ⟨a, rfl, fun z => n (m a z), e.st _ _ q n nt_dK⟩
  | .lst ds, v, h => by
    unfold Rep at h ⊢
    obtain ⟨a, xs, rfl, q, r⟩ := h
    exact ⟨a, xs, rfl, q.stp e m, RepL.stp e m ds xs r⟩
  | .tup ds, v, h => by
    unfold Rep at h ⊢
    obtain ⟨a, xs, rfl, n, q, r⟩ := h
    exact ⟨a, xs, rfl, fun z => n (m a z), Rd.stp e n nt_tup q, RepL.stp e m ds xs r⟩
  | .obj C ns ds, v, h => by
    unfold Rep at h ⊢
    obtain ⟨a, dx, xs, rfl, n, q, z, r⟩ := h
    exact ⟨a, dx, xs, rfl, fun z => n (m a z), e.st _ _ q n nt_ins, z, RepL.stp e m ds xs r⟩
theorem RepL.stp (e : Stp M H H') (m : ∀ x, M' x → M x) : ∀ (ds : List D) (xs : List V), RepL K H M ds xs → RepL K H' M' ds xs
  | [], xs, h => by unfold RepL at h ⊢; exact h
  | d :: ds, xs, h => by
    unfold RepL at h ⊢
    obtain ⟨x, ys, rfl, r, q⟩ := h
    exact ⟨x, ys, rfl, Rep.stp e m d x r, RepL.stp e m ds ys q⟩
end
mutual
/-- other addresses may be set apart, if nothing stood there -/
theorem Rep.grow (m : ∀ x, M' x → M x ∨ ¬ Lv H x) : ∀ (d : D) (v : V), Rep K H M d v → Rep K H M' d v
  | .non, v, h => by unfold Rep at h ⊢; exact h
  | .bl b, v, h => by unfold Rep at h ⊢; exact h
  | .int i, v, h => by unfold Rep at h ⊢; exact h
  | .str s, v, h => by unfold Rep at h ⊢; exact h
  | .raw w, v, h => by unfold Rep at h ⊢; exact h
  | .fn x, v, h => by unfold Rep at h ⊢; exact h
  | .dct, v, h => by
    unfold Rep at h ⊢
    obtain ⟨a, rfl, n, q⟩ := h
    exact ⟨a, rfl, fun z => (m a z).elim n fun w => w (Lv.dK q), q⟩
  | .lst ds, v, h => by
    unfold Rep at h ⊢
    obtain ⟨a, xs, rfl, q, r⟩ := h
    exact ⟨a, xs, rfl, q.grow m, RepL.grow m ds xs r⟩
  | .tup ds, v, h => by
    unfold Rep at h ⊢
    obtain ⟨a, xs, rfl, n, q, r⟩ := h
    exact ⟨a, xs, rfl, fun z => (m a z).elim n fun w => w (Rd.ne q nt_tup), q, RepL.grow m ds xs r⟩
  | .obj C ns ds, v, h => by
    unfold Rep at h ⊢
    obtain ⟨a, dx, xs, rfl, n, q, z, r⟩ := h
    exact ⟨a, dx, xs, rfl, fun z => (m a z).elim n fun w => w (Lv.ins q), q, z, RepL.grow m ds xs r⟩
theorem RepL.grow (m : ∀ x, M' x → M x ∨ ¬ Lv H x) : ∀ (ds : List D) (xs : List V), RepL K H M ds xs → RepL K H M' ds xs
  | [], xs, h => by unfold RepL at h ⊢; exact h
  | d :: ds, xs, h => by
    unfold RepL at h ⊢
    obtain ⟨x, ys, rfl, r, q⟩ := h
    exact ⟨x, ys, rfl, Rep.grow m d x r, RepL.grow m ds ys q⟩
end
theorem RepL.length : ∀ {ds : List D} {xs : List V}, RepL K H M ds xs → ds.length = xs.length
  | [], xs, h => by unfold RepL at h; subst h; rfl
  | d :: ds, xs, h => by
    unfold RepL at h
    obtain ⟨x, ys, rfl, r, q⟩ := h
    simp [RepL.length q]
theorem RepL.nil : RepL K H M [] [] := by unfold RepL; rfl
theorem RepL.cons {d : D} {ds : List D} {x : V} {xs : List V} (h : Rep K H M d x) (r : RepL K H M ds xs) : RepL K H M (d :: ds) (x :: xs) := by unfold RepL; exact ⟨x, xs, rfl, h, r⟩
theorem RepL.append : ∀ {ds es : List D} {xs ys : List V}, RepL K H M ds xs → RepL K H M es ys → RepL K H M (ds ++ es) (xs ++ ys)
  | [], es, xs, ys, h, r => by unfold RepL at h; subst h; exact r
  | d :: ds, es, xs, ys, h, r => by
    unfold RepL at h
    obtain ⟨x, zs, rfl, q, h⟩ := h
    exact RepL.cons q (RepL.append h r)
theorem RepL.get : ∀ {ds : List D} {xs : List V} {i : Nat} {d : D}, RepL K H M ds xs → ds[i]? = some d → ∃ x, xs[i]? = some x ∧ Rep K H M d x
  | [], xs, i, d, h, e => by simp at e
  | d :: ds, xs, 0, d', h, e => by
    unfold RepL at h
    obtain ⟨x, zs, rfl, q, h⟩ := h
    simp at e; subst e
    exact ⟨x, rfl, q⟩
  | d :: ds, xs, i + 1, d', h, e => by
    unfold RepL at h
    obtain ⟨x, zs, rfl, q, h⟩ := h
    obtain ⟨y, a, b⟩ := RepL.get (i := i) h (by simpa using e)
    exact ⟨y, by simpa using a, b⟩
theorem RepL.get' : ∀ {ds : List D} {xs : List V} {i : Nat} {x : V}, RepL K H M ds xs → xs[i]? = some x → ∃ d, ds[i]? = some d ∧ Rep K H M d x := fun {ds xs i x} h e => by
  have hl := h.length
  obtain ⟨hi, _⟩ := List.getElem?_eq_some_iff.mp e
  have : i < ds.length := by omega
  obtain ⟨y, a, b⟩ := h.get (List.getElem?_eq_getElem this)
  rw [e] at a; cases a
  exact ⟨_, List.getElem?_eq_getElem this, b⟩
theorem RepL.set : ∀ {ds : List D} {xs : List V} {i : Nat} {d : D} {x : V}, RepL K H M ds xs → Rep K H M d x → RepL K H M (ds.set i d) (xs.set i x)
  | [], xs, i, d, x, h, r => by unfold RepL at h; subst h; exact RepL.nil
  | e :: ds, xs, 0, d, x, h, r => by
    unfold RepL at h
    obtain ⟨y, zs, rfl, q, h⟩ := h
    exact RepL.cons r h
  | e :: ds, xs, i + 1, d, x, h, r => by
    unfold RepL at h
    obtain ⟨y, zs, rfl, q, h⟩ := h
    exact RepL.cons q (RepL.set h r)
theorem RepL.take : ∀ {ds : List D} {xs : List V} (n : Nat), RepL K H M ds xs → RepL K H M (ds.take n) (xs.take n)
  | _, _, 0, h => RepL.nil
  | [], xs, n + 1, h => by unfold RepL at h; subst h; exact RepL.nil
  | d :: ds, xs, n + 1, h => by
    unfold RepL at h
    obtain ⟨y, zs, rfl, q, h⟩ := h
    exact RepL.cons q (RepL.take n h)
theorem RepL.drop : ∀ {ds : List D} {xs : List V} (n : Nat), RepL K H M ds xs → RepL K H M (ds.drop n) (xs.drop n)
  | _, _, 0, h => h
  | [], xs, n + 1, h => by unfold RepL at h; subst h; exact RepL.nil
  | d :: ds, xs, n + 1, h => by
    unfold RepL at h
    obtain ⟨y, zs, rfl, q, h⟩ := h
    exact RepL.drop n h
/-- ints, and nothing else -/
theorem RepL.ints : ∀ {ns : List Int} {xs : List V}, RepL K H M (ns.map D.int) xs → xs = ns.map V.int
  | [], xs, h => by unfold RepL at h; exact h
  | n :: ns, xs, h => by
    rw [List.map_cons] at h
    unfold RepL at h
    obtain ⟨y, zs, rfl, q, h⟩ := h
    unfold Rep at q
    rw [q, RepL.ints h]; rfl
theorem RepL.of_ints : ∀ (ns : List Int), RepL K H M (ns.map D.int) (ns.map V.int)
  | [] => RepL.nil
  | n :: ns => RepL.cons (by unfold Rep; rfl) (RepL.of_ints ns)
theorem RepL.bools : ∀ {ns : List Bool} {xs : List V}, RepL K H M (ns.map D.bl) xs → xs = ns.map V.bl
  | [], xs, h => by unfold RepL at h; exact h
  | n :: ns, xs, h => by
    rw [List.map_cons] at h
    unfold RepL at h
    obtain ⟨y, zs, rfl, q, h⟩ := h
    unfold Rep at q
    rw [q, RepL.bools h]; rfl
end
def truD : D → Option Bool
  | .non => some false
  | .bl b => some b
  | .int i => some (i != 0)
  | .str s => if s.length ≤ 1000000 then some ((s.length : Int) != 0) else none
  | .lst ds => some (!ds.isEmpty)
  | .tup ds => some (!ds.isEmpty)
  | _ => none
mutual
def toPy : D → Option PyData
  | .non => some .none
  | .bl b => some (.bool b)
  | .int i => some (.int i)
  | .str s => some (.str s)
  | .lst ds => (toPys ds).map PyData.list
  | .tup ds => (toPys ds).map PyData.tuple
  | _ => none
def toPys : List D → Option (List PyData)
  | [] => some []
  | d :: ds => match toPy d, toPys ds with
    | some x, some xs => some (x :: xs)
    | _, _ => none
end
theorem truV_of {K : PySem.W.Frag} {H : Hp} {M : AS} {d : D} {v : V} {b : Bool} (r : Rep K H M d v) (t : truD d = some b) : TruV K v H b := by
  have hs : sizeLine = 16777216 := sizeLine_eq
  cases d with
  | non => unfold Rep at r; subst r; cases t; rfl
  | bl c => unfold Rep at r; subst r; cases t; rfl
  | int i => unfold Rep at r; subst r; cases t; rfl
  | str s =>
    unfold Rep at r; subst r
    have t' : (if s.length ≤ 1000000 then some ((s.length : Int) != 0) else none) = some b := t
    by_cases hl : s.length ≤ 1000000
    · rw [if_pos hl] at t'
      cases t'
      exact ⟨by omega, rfl⟩
    · rw [if_neg hl] at t'
      cases t'
  | lst ds =>
    unfold Rep at r
    obtain ⟨a, xs, rfl, q, z⟩ := r
    cases t
    refine .inl ⟨xs, q.l, ?_⟩
    have := z.length
    cases ds <;> cases xs <;> simp_all
  | tup ds =>
    unfold Rep at r
    obtain ⟨a, xs, rfl, _, q, z⟩ := r
    cases t
    refine .inr (.inl ⟨xs, Rd.t q, ?_⟩)
    have := z.length
    cases ds <;> cases xs <;> simp_all
  | obj C ns ds => cases t
  | raw w => cases t
  | dct => cases t
  | fn x => cases t
section
variable {K : PySem.W.Frag} {H : Hp} {M : AS}
mutual
theorem dp_of : ∀ (d : D) (v : V) (p : PyData), Rep K H M d v → toPy d = some p → Dp K H v p
  | .non, v, p, r, t => by unfold Rep at r; unfold toPy at t; subst r; cases t; exact .non
  | .bl b, v, p, r, t => by unfold Rep at r; unfold toPy at t; subst r; cases t; exact .bl b
  | .int i, v, p, r, t => by unfold Rep at r; unfold toPy at t; subst r; cases t; exact .int i
  | .str s, v, p, r, t => by unfold Rep at r; unfold toPy at t; subst r; cases t; exact .str s
  | .lst ds, v, p, r, t => by
    unfold Rep at r; unfold toPy at t
    obtain ⟨a, xs, rfl, q, z⟩ := r
    cases e : toPys ds with
    | none => rw [e] at t; cases t
    | some ps =>
      rw [e] at t; cases t
      exact .lst q.l (dps_of ds xs ps z e)
  | .tup ds, v, p, r, t => by
    unfold Rep at r; unfold toPy at t
    obtain ⟨a, xs, rfl, _, q, z⟩ := r
    cases e : toPys ds with
    | none => rw [e] at t; cases t
    | some ps =>
      rw [e] at t; cases t
      exact .tup (Rd.t q) (dps_of ds xs ps z e)
  | .obj C ns ds, v, p, r, t => by unfold toPy at t; cases t
  | .raw w, v, p, r, t => by unfold toPy at t; cases t
  | .dct, v, p, r, t => by unfold toPy at t; cases t
  | .fn x, v, p, r, t => by unfold toPy at t; cases t
theorem dps_of : ∀ (ds : List D) (xs : List V) (ps : List PyData), RepL K H M ds xs → toPys ds = some ps → DpAll K H xs ps
  | [], xs, ps, r, t => by unfold RepL at r; unfold toPys at t; subst r; cases t; exact .nil
  | d :: ds, xs, ps, r, t => by
    unfold RepL at r; unfold toPys at t
    obtain ⟨x, ys, rfl, r, q⟩ := r
    cases e : toPy d with
    | none => rw [e] at t; cases t
    | some p =>
      cases e2 : toPys ds with
      | none => rw [e, e2] at t; cases t
      | some ps' =>
        rw [e, e2] at t; cases t
        exact .cons (dp_of d x p r e) (dps_of ds ys ps' q e2)
end
end
end Mp
set_option maxHeartbeats 2000000
namespace Mp
open PySem L2
inductive Cell where
  | dat (d : D) | own (ds : List D) | io (ds : List D) | slf (C : Str) (ns : List Str) (ds : List D)
abbrev Env := List (Option Cell)
inductive Opd where
  | val (d : D) | pl (i : Nat)
inductive R (α : Type) where
  | ok (a : α) (env : Env) | exc (C : Str) (f : Str) (d : D) (env : Env) | bad
def R.bind {α β : Type} : R α → (α → Env → R β) → R β
  | .ok a env, k => k a env
  | .exc C f d env, _ => .exc C f d env
  | .bad, _ => .bad
inductive FR where
  | ok (d : D) (out : List D) | exc (C : Str) (f : Str) (d : D) (out : List D) | bad
structure Fn where
  n : Nat
  io : Option Nat
  sem : List D → FR
inductive BOp where
  | add | sub | mul | fdiv | mod | pow
inductive COp where
  | eq | ne | lt | le | gt | ge | is_ | isnot | in_ | notin
inductive Ty where
  | int | bool | str | list | tuple | dict | cls (C : Str)
inductive Blt where
  | len | int | max2 | min2 | sorted | list | tuple | all | any | abs | range1 | range2 | maxl | minl | sum | bool | repr | sset
/-- a clause that tells an error: its class, its field, the word put ahead, whether the repr is told -/
structure HC where
  C : Str
  f : Str
  lab : Str
  rep : Bool
inductive Tgt where
  | name (i : Nat) | tup (is : List Nat)
mutual
inductive IR where
  | c (d : D)
  | v (i : Nat)
  | bin (op : BOp) (a b : IR)
  | cmp (op : COp) (a b : IR)
  | chn (op1 op2 : COp) (a b c : IR)
  | and_ (a b : IR)
  | or_ (a b : IR)
  | not_ (a : IR)
  | neg (a : IR)
  | ite (t a b : IR)
  | tup (es : List IR)
  | lst (es : List IR)
  | ix (a b : IR)
  | sl (a : IR) (lo hi : Option IR)
  | call (j : Nat) (es : List IR)
  | meth (j : Nat) (o : IR) (es : List IR)
  | make (j : Nat) (es : List IR)
  | blt (b : Blt) (es : List IR)
  | isin (a : IR) (ts : List Ty)
  | fld (o : IR) (f : Str)
  | app (i : Nat) (e : IR)
  | pop (i : Nat) (e : IR)
  | lc (tg : Tgt) (it : IT) (t : Option IR) (e : IR) (own : List Nat)
  | lcf (tg : Tgt) (i : Nat) (t : Option IR) (e : IR) (own : List Nat)
  | lrng (e : IR)
  | ocmp (j : Nat) (a b : IR)
  | heard (cs : List HC) (e : IR)
  | sq (e : IR)
  | lstS (fs : List Bool) (es : List IR)
  | dnew
  | callv (i : Nat) (alts : List (Str × Nat)) (es : List IR)
  | lc2 (tg : Tgt) (it : IT) (tg1 : Tgt) (it1 : IT) (t : Option IR) (e : IR) (own own1 : List Nat)
  | lrng2 (a b : IR)
  | ext (i : Nat) (e : IR)
  | obin (j : Nat) (a b : IR)
  | oeq (neg : Bool) (j : Nat) (a b : IR)
inductive IT where
  | seq (e : IR)
  | rng1 (e : IR)
  | rng2 (a b : IR)
  | rng3 (a b c : IR)
  | txt (e : IR)
  | zip (a b : IR)
  | enum (a : IR)
end
def BIG : Nat := 100000
def addD : D → D → Option D
  | .int i, .int j => some (.int (i + j))
  | .str a, .str b => if a.length + b.length ≤ BIG then some (.str (a ++ b)) else none
  | .lst a, .lst b => if a.length + b.length ≤ BIG then some (.lst (a ++ b)) else none
  | _, _ => none
def subD : D → D → Option D
  | .int i, .int j => some (.int (i - j))
  | _, _ => none
def mulD : D → D → Option D
  | .int i, .int j => if (-18446744073709551616 < i ∧ i < 18446744073709551616) ∨ (-18446744073709551616 < j ∧ j < 18446744073709551616) then some (.int (i * j)) else none
  | .lst ds, .int j => if 0 ≤ j ∧ j ≤ 100 ∧ ds.length ≤ 100 then some (.lst (List.replicate j.toNat ds).flatten) else none
  | _, _ => none
def fdivD : D → D → Option D
  | .int i, .int j => if 0 < j ∧ j < 1073741824 then some (.int (i / j)) else none
  | _, _ => none
def modD : D → D → Option D
  | .int i, .int j => if 0 < j then some (.int (i % j)) else none
  | _, _ => none
def powD : D → D → Option D
  | .int i, .int j => if 0 ≤ j ∧ j ≤ 1000000 ∧ i.natAbs < 18446744073709551616 then some (.int (i ^ j.toNat)) else none
  | _, _ => none
def binD : BOp → D → D → Option D
  | .add => addD | .sub => subD | .mul => mulD | .fdiv => fdivD | .mod => modD | .pow => powD
mutual
/-- == of data, None where it is not of data (or too deep: n levels) -/
def eqD : D → D → Bool
  | .non, .non => true
  | .bl a, .bl b => a == b
  | .bl a, .int j => (if a then 1 else 0) == j
  | .int i, .bl b => i == (if b then 1 else 0)
  | .int i, .int j => i == j
  | .str x, .str y => x == y
  | .lst xs, .lst ys => eqDs xs ys
  | .tup xs, .tup ys => eqDs xs ys
  | _, _ => false
def eqDs : List D → List D → Bool
  | [], [] => true
  | x :: xs, y :: ys => eqD x y && eqDs xs ys
  | _, _ => false
end
mutual
/-- data, at most n deep -/
def dataD : Nat → D → Bool
  | _, .non => true
  | _, .bl _ => true
  | _, .int _ => true
  | _, .str s => s.cps.all (· < 0x110000)
  | 0, _ => false
  | n + 1, .lst ds => dataDs n ds
  | n + 1, .tup ds => dataDs n ds
  | _, _ => false
def dataDs : Nat → List D → Bool
  | _, [] => true
  | n, d :: ds => dataD n d && dataDs n ds
end
def isNon : D → Bool
  | .non => true
  | _ => false
def cmpD : COp → D → D → Option Bool
  | .eq, x, y => if dataD 20 x && dataD 20 y then some (eqD x y) else none
  | .ne, x, y => if dataD 20 x && dataD 20 y then some (!eqD x y) else none
  | .lt, .int i, .int j => some (decide (i < j))
  | .le, .int i, .int j => some (decide (i ≤ j))
  | .gt, .int i, .int j => some (decide (j < i))
  | .ge, .int i, .int j => some (decide (j ≤ i))
  | .is_, .raw _, _ => none
  | .isnot, .raw _, _ => none
  | .is_, x, .non => some (isNon x)
  | .isnot, x, .non => some (!isNon x)
  | .is_, .bl a, .bl b => some (decide (a = b))
  | .isnot, .bl a, .bl b => some (!decide (a = b))
  | .in_, .str i, .str j => some (!(PySem.Builtin.Str.occurrences j i 0 j.length 1).isEmpty)
  | .notin, .str i, .str j => some (!(!(PySem.Builtin.Str.occurrences j i 0 j.length 1).isEmpty))
  | .in_, x, .lst ys => if dataD 19 x && dataDs 19 ys then some (ys.any fun y => eqD y x) else none
  | .in_, x, .tup ys => if dataD 19 x && dataDs 19 ys then some (ys.any fun y => eqD y x) else none
  | .notin, x, .lst ys => if dataD 19 x && dataDs 19 ys then some (!ys.any fun y => eqD y x) else none
  | .notin, x, .tup ys => if dataD 19 x && dataDs 19 ys then some (!ys.any fun y => eqD y x) else none
  | _, _, _ => none
def ixD : D → D → Option D
  | .lst ds, .int i => atI ds i
  | .tup ds, .int i => atI ds i
  | _, _ => none
def cutD (ds : List D) (lo hi : Option Int) : List D := (ds.drop (HT.sIx ds.length 0 lo)).take (HT.sIx ds.length ds.length hi - HT.sIx ds.length 0 lo)
def slD : D → Option Int → Option Int → Option D
  | .lst ds, lo, hi => some (.lst (cutD ds lo hi))
  | .tup ds, lo, hi => some (.tup (cutD ds lo hi))
  | _, _, _ => none
def sortI (ns : List Int) : List Int := ns.mergeSort
def intsD : List D → Option (List Int)
  | [] => some []
  | .int i :: ds => (intsD ds).map (i :: ·)
  | _ :: _ => none
def boolsD : List D → Option (List Bool)
  | [] => some []
  | .bl i :: ds => (boolsD ds).map (i :: ·)
  | _ :: _ => none
def insI (x : Int) : List Int → List Int
  | [] => [x]
  | y :: ys => if x < y then x :: y :: ys else if x = y then y :: ys else y :: insI x ys
/-- the members, rising -/
def ssetI (ns : List Int) : List Int := ns.foldr insI []
def iotaD (lo : Int) : Nat → List D
  | 0 => []
  | n + 1 => .int lo :: iotaD (lo + 1) n
/-- lo, lo + c, .. -/
def stepD (lo c : Int) : Nat → List D
  | 0 => []
  | n + 1 => .int lo :: stepD (lo + c) c n
/-- a text, sign by sign -/
def signsD (s : Str) : List D := s.cps.toList.map fun c => D.str ⟨#[c]⟩
/-- data whose repr is told -/
def showB (p : PyData) : Bool := p.showable && !p.hasDict && (match p with | .int i => decide (i.natAbs.log2 < 1920) | _ => true) && decide (p.shown.length ≤ BIG) && decide (p.depth ≤ 60)
def reprD (d : D) : Option D := match toPy d with
  | some p => if showB p then some (.str p.shown) else none
  | none => none
/-- what the first clause of the error's class tells -/
def hear : List HC → Str → Str → D → Option D
  | [], _, _, _ => none
  | c :: cs, C, f, d => if C = c.C then (if f = c.f then (if c.rep then (reprD d).map fun r => .lst [.str c.lab, r] else some (.lst [.str c.lab, d])) else none) else hear cs C f d
def bltD : Blt → List D → Option D
  | .repr, [d] => reprD d
  | .len, [.lst ds] => some (.int ds.length)
  | .len, [.tup ds] => some (.int ds.length)
  | .len, [.str s] => if s.length ≤ 1000000 then some (.int s.length) else none
  | .int, [.int i] => some (.int i)
  | .int, [.bl b] => some (.int (if b then 1 else 0))
  | .bool, [.int i] => some (.bl (i != 0))
  | .bool, [.bl b] => some (.bl b)
  | .abs, [.int i] => some (.int (if i < 0 then -i else i))
  | .max2, [.int i, .int j] => some (.int (if j > i then j else i))
  | .min2, [.int i, .int j] => some (.int (if j < i then j else i))
  | .sorted, [.lst ds] => (intsD ds).map fun ns => .lst ((sortI ns).map .int)
  | .list, [.lst ds] => some (.lst ds)
  | .list, [.tup ds] => some (.lst ds)
  | .tuple, [.lst ds] => some (.tup ds)
  | .tuple, [.tup ds] => some (.tup ds)
  | .all, [.lst ds] => (boolsD ds).map fun bs => .bl (bs.all id)
  | .any, [.lst ds] => (boolsD ds).map fun bs => .bl (bs.any id)
  | .sset, [.lst ds] => (intsD ds).bind fun ns => if ns.length < 64 then some (.lst ((ssetI ns).map .int)) else none
  | .sum, [.lst ds] => (intsD ds).map fun ns => .int ns.sum
  | .maxl, [.lst ds] => (intsD ds).bind fun ns => match ns with
    | [] => none
    | n :: ns => some (.int (ns.foldl max n))
  | .minl, [.lst ds] => (intsD ds).bind fun ns => match ns with
    | [] => none
    | n :: ns => some (.int (ns.foldl min n))
  | _, _ => none
def tyD : Ty → D → Bool
  | .int, .int _ => true
  | .int, .bl _ => true
  | .bool, .bl _ => true
  | .str, .str _ => true
  | .list, .lst _ => true
  | .tuple, .tup _ => true
  | .cls C, .obj C' _ _ => decide (C = C')
  | .dict, .dct => true
  | _, _ => false
/-- a value whose class is known -/
def knownB (cs : List Str) : D → Bool
  | .obj C _ _ => cs.contains C
  | .raw _ => false
  | .fn _ => false
  | _ => true
def content : Cell → D
  | .dat d => d
  | .own ds => .lst ds
  | .io ds => .lst ds
  | .slf C ns ds => .obj C ns ds
def cellAt (env : Env) (i : Nat) : Option Cell := (env[i]?).join
/-- what an operand is worth now -/
def rdO (env : Env) : Opd → Option D
  | .val d => some d
  | .pl i => (cellAt env i).map content
/-- an operand is kept by something else: a list of one's own is not changed any more -/
def takeO (env : Env) : Opd → Option (D × Env)
  | .val d => some (d, env)
  | .pl i => match cellAt env i with
    | some (.own ds) => some (.lst ds, env.set i (some (.dat (.lst ds))))
    | some (.dat d) => some (d, env)
    | _ => none
/-- a slot that may be given another value -/
def freeB (env : Env) (i : Nat) : Bool := match env[i]? with
  | some (some (.io _)) => false
  | some (some (.slf _ _ _)) => false
  | some _ => true
  | none => false
def bindT (tg : Tgt) (d : D) (env : Env) : Option Env := match tg with
  | .name i => if freeB env i then some (env.set i (some (.dat d))) else none
  | .tup is => match d with
    | .tup ds => if ds.length = is.length ∧ is.all (freeB env) = true then some ((is.zip ds).foldl (fun e p => e.set p.1 (some (.dat p.2))) env) else none
    | .lst ds => if ds.length = is.length ∧ is.all (freeB env) = true then some ((is.zip ds).foldl (fun e p => e.set p.1 (some (.dat p.2))) env) else none
    | _ => none
/-- the target's slots -/
def tgOwn : Tgt → List Nat
  | .name i => [i]
  | .tup is => is
/-- slots that hold a list of one's own can't be hidden by a comprehension -/
def hideB (env : Env) (i : Nat) : Bool := match env[i]? with
  | some none => true
  | some (some (.dat _)) => true
  | _ => false
def ownB (env : Env) (i : Nat) : Bool := match env[i]? with
  | some (some (.own _)) => true
  | _ => false
def wipeE (env : Env) : List Nat → Env
  | [] => env
  | i :: is => (wipeE env is).set i none
/-- behind a comprehension: its slots as they were -/
def backE (old : Env) (env : Env) : List Nat → Env
  | [] => env
  | i :: is => (backE old env is).set i ((old[i]?).join)
def R.take (r : R Opd) : R D := r.bind fun o env => match takeO env o with
  | some (d, env') => .ok d env'
  | none => .bad
def R.rd (r : R Opd) : R D := r.bind fun o env => match rdO env o with
  | some d => .ok d env
  | none => .bad
def lift (env : Env) : Option D → R Opd
  | some d => .ok (.val d) env
  | none => .bad
/-- the items of a list display with stars: a starred one gives its own items -/
def starD : List Bool → List D → Option (List D)
  | [], [] => some []
  | false :: fs, d :: ds => (starD fs ds).map (d :: ·)
  | true :: fs, .lst xs :: ds => (starD fs ds).map (xs ++ ·)
  | true :: fs, .tup xs :: ds => (starD fs ds).map (xs ++ ·)
  | _, _ => none
structure Mt where
  C : Str
  name : Str
  n : Nat
  sem : List D → FR
structure Mkr where
  C : Str
  n : Nat
  ns : List Str
  sem : List D → FR
structure Ctx where
  fns : List Fn
  mts : List Mt
  mks : List Mkr
  cls : List Str
  frs : List Fn
/-- a comprehension's turns -/
def lcLoop (own : List Nat) (tg : Tgt) (t : Option (Env → R Bool)) (e : Env → R D) : List D → Env → R (List D)
  | [], env => .ok [] env
  | d :: ds, env => match bindT tg d (wipeE env own) with
    | none => .bad
    | some env1 => (match t with
        | none => R.ok true env1
        | some t => t env1).bind fun b env2 => if b then (e env2).bind fun x env3 => (lcLoop own tg t e ds env3).bind fun xs env4 => .ok (x :: xs) env4 else lcLoop own tg t e ds env2
/-- the turns of a comprehension of two fors -/
def lc2Loop (own : List Nat) (tg : Tgt) (src : Env → R (List D)) (own1 : List Nat) (tg1 : Tgt) (t : Option (Env → R Bool)) (e : Env → R D) : List D → Env → R (List D)
  | [], env => .ok [] env
  | d :: ds, env => match bindT tg d (wipeE env own) with
    | none => .bad
    | some env1 => (src env1).bind fun ds1 env2 => if ds1.length ≤ 1000 then (lcLoop own1 tg1 t e ds1 env2).bind fun xs env3 => (lc2Loop own tg src own1 tg1 t e ds env3).bind fun ys env4 => .ok (xs ++ ys) env4 else .bad
def truR (r : R Opd) : R Bool := r.bind fun o env => match (rdO env o).bind truD with
  | some b => .ok b env
  | none => .bad
def zipD : List D → List D → List D
  | x :: xs, y :: ys => .tup [x, y] :: zipD xs ys
  | _, _ => []
def enumD (k : Int) : List D → List D
  | [] => []
  | x :: xs => .tup [.int k, x] :: enumD (k + 1) xs
def seqD : D → Option (List D)
  | .lst ds => some ds
  | .tup ds => some ds
  | _ => none
def lstD : D → Option (List D)
  | .lst ds => some ds
  | _ => none
def noExc {α : Type} : R α → R α
  | .exc _ _ _ _ => .bad
  | r => r
def frR (env : Env) (io : Option Nat) (ops : List Nat) : FR → R Opd
  | .ok d out => match io with
    | none => .ok (.val d) env
    | some _ => match ops with
      | [i] => (match cellAt env i with
        | some (.own _) => .ok (.val d) (env.set i (some (.own out)))
        | some (.io _) => .ok (.val d) (env.set i (some (.io out)))
        | _ => .bad)
      | _ => .bad
  | .exc C f d out => match io with
    | none => .exc C f d env
    | some _ => match ops with
      | [i] => (match cellAt env i with
        | some (.own _) => .exc C f d (env.set i (some (.own out)))
        | some (.io _) => .exc C f d (env.set i (some (.io out)))
        | _ => .bad)
      | _ => .bad
  | .bad => .bad
mutual
def ev (G : Ctx) : IR → Env → R Opd
  | .c d, env => .ok (.val d) env
  | .v i, env => match cellAt env i with
    | some (.dat d) => .ok (.val d) env
    | some (.own _) => .ok (.pl i) env
    | some (.io _) => .ok (.pl i) env
    | _ => .bad
  | .bin op a b, env => (ev G a env).bind fun x e1 => (ev G b e1).bind fun y e2 => match rdO e2 x, rdO e2 y with
    | some p, some q => lift e2 (binD op p q)
    | _, _ => .bad
  | .cmp op a b, env => (ev G a env).bind fun x e1 => (ev G b e1).bind fun y e2 => match rdO e2 x, rdO e2 y with
    | some p, some q => lift e2 ((cmpD op p q).map .bl)
    | _, _ => .bad
  | .chn op1 op2 a b c, env => (ev G a env).bind fun x e1 => (ev G b e1).bind fun y e2 => match rdO e2 x, rdO e2 y with
    | some p, some q => (match cmpD op1 p q with
      | some true => (ev G c e2).bind fun z e3 => (match rdO e3 y, rdO e3 z with
        | some p, some q => lift e3 ((cmpD op2 p q).map .bl)
        | _, _ => .bad)
      | some false => .ok (.val (.bl false)) e2
      | none => .bad)
    | _, _ => .bad
  | .and_ a b, env => (ev G a env).bind fun x e1 => match (rdO e1 x).bind truD with
    | some true => ev G b e1
    | some false => .ok x e1
    | none => .bad
  | .or_ a b, env => (ev G a env).bind fun x e1 => match (rdO e1 x).bind truD with
    | some true => .ok x e1
    | some false => ev G b e1
    | none => .bad
  | .not_ a, env => (ev G a env).bind fun x e1 => match (rdO e1 x).bind truD with
    | some b => .ok (.val (.bl (!b))) e1
    | none => .bad
  | .neg a, env => (ev G a env).bind fun x e1 => match x with
    | .val (.int i) => .ok (.val (.int (-i))) e1
    | _ => .bad
  | .ite t a b, env => (truR (ev G t env)).bind fun c e1 => if c then ev G a e1 else ev G b e1
  | .tup es, env => (evs G es env).bind fun ds e1 => if ds.length ≤ BIG then .ok (.val (.tup ds)) e1 else .bad
  | .lst es, env => (evs G es env).bind fun ds e1 => if ds.length ≤ BIG then .ok (.val (.lst ds)) e1 else .bad
  | .ix a b, env => (ev G a env).bind fun x e1 => (ev G b e1).bind fun y e2 => match rdO e2 x, rdO e2 y with
    | some p, some q => lift e2 (ixD p q)
    | _, _ => .bad
  | .sl a lo hi, env => (ev G a env).bind fun x e1 => (evo G lo e1).bind fun i e2 => (evo G hi e2).bind fun j e3 => match rdO e3 x with
    | some p => lift e3 (slD p i j)
    | none => .bad
  | .call j es, env => match G.fns[j]? with
    | none => .bad
    | some f => if es.length = f.n then (eva G f.io 0 es env).bind fun p e1 => (match (p.1.mapM (rdO e1)) with
      | some ds => frR e1 f.io p.2 (f.sem ds)
      | none => .bad) else .bad
  | .meth j o es, env => match G.mts[j]? with
    | none => .bad
    | some m => (ev G o env).bind fun x e1 => match x with
      | .val (.obj C ns ds) => if C = m.C ∧ es.length + 1 = m.n ∧ ns.contains m.name = false then (evs G es e1).bind fun vs e2 => frR e2 none [] (m.sem (.obj C ns ds :: vs)) else .bad
      | _ => .bad
  | .make j es, env => match G.mks[j]? with
    | none => .bad
    | some m => if es.length = m.n then (evs G es env).bind fun vs e1 => (match m.sem vs with
      | .ok _ out => .ok (.val (.obj m.C m.ns out)) e1
      | .exc C f d _ => .exc C f d e1
      | .bad => .bad) else .bad
  | .blt b es, env => (evr G es env).bind fun os e1 => match os.mapM (rdO e1) with
    | some ds => lift e1 (bltD b ds)
    | none => .bad
  | .isin a ts, env => (ev G a env).bind fun x e1 => match rdO e1 x with
    | some d => if knownB G.cls d then .ok (.val (.bl (ts.any fun t => tyD t d))) e1 else .bad
    | none => .bad
  | .fld o f, env => (ev G o env).bind fun x e1 => match rdO e1 x with
    | some (.obj C ns ds) => if G.cls.contains C then lift e1 ((ns.zip ds).lookup f) else .bad
    | _ => .bad
  | .app i e, env => if ownB env i then (ev G e env).take.bind fun d e1 => match e1[i]? with
    | some (some (.own ds)) => if ds.length < BIG then .ok (.val .non) (e1.set i (some (.own (ds ++ [d])))) else .bad
    | _ => .bad
    else .bad
  | .pop i e, env => if ownB env i then (ev G e env).rd.bind fun d e1 => match e1[i]?, d with
    | some (some (.own ds)), .int k => if 0 ≤ k ∧ k < ds.length ∧ k < 1000000 then (match ds[k.toNat]? with
        | some x => .ok (.val x) (e1.set i (some (.own (ds.eraseIdx k.toNat))))
        | none => .bad) else .bad
    | _, _ => .bad
    else .bad
  | .lc tg it t e own, env => (noExc (evi G it env)).bind fun ds e1 => if ds.length ≤ BIG ∧ own.all (hideB e1) = true ∧ (tgOwn tg).all (fun i => own.contains i) = true then
        (noExc (lcLoop own tg (match t with
          | none => none
          | some t => some fun x => truR (ev G t x)) (fun x => (ev G e x).take) ds e1)).bind fun xs e2 => .ok (.val (.lst xs)) (backE e1 e2 own) else .bad
  | .lcf tg i t e own, env => match env[i]? with
    | some (some (.own ds)) => if ds.length ≤ BIG ∧ own.all (hideB (env.set i none)) = true ∧ (tgOwn tg).all (fun i => own.contains i) = true then
        (noExc (lcLoop own tg (match t with
          | none => none
          | some t => some fun x => truR (ev G t x)) (fun x => (ev G e x).take) ds (env.set i none))).bind fun xs e2 => (match (backE (env.set i none) e2 own)[i]? with
            | some none => .ok (.val (.lst xs)) ((backE (env.set i none) e2 own).set i (some (.own ds)))
            | _ => .bad) else .bad
    | _ => .bad
  | .lrng e, env => (ev G e env).rd.bind fun d e1 => match d with
    | .int j => if -1000000 ≤ j ∧ j ≤ BIG then .ok (.val (.lst (iotaD 0 j.toNat))) e1 else .bad
    | _ => .bad
  | .ocmp j a b, env => (ev G a env).bind fun x e1 => (ev G b e1).bind fun y e2 => match G.mts[j]?, x, y with
    | some m, .val (.obj C ns ds), .val (.obj C' ns' ds') => if C = m.C ∧ C' = m.C ∧ m.n = 2 then (match m.sem [.obj C ns ds, .obj C' ns' ds'] with
      | .ok (.bl k) _ => .ok (.val (.bl k)) e2
      | _ => .bad) else .bad
    | _, _, _ => .bad
  | .heard cs e, env => match ev G e env with
    | .ok _ e1 => .ok (.val .non) e1
    | .exc C f d e1 => lift e1 (hear cs C f d)
    | .bad => .bad
  | .sq e, env => (ev G e env).bind fun o e1 => match rdO e1 o with
    | some (.lst _) => .ok o e1
    | some (.tup _) => .ok o e1
    | _ => .bad
  | .lstS fs es, env => (evs G es env).bind fun ds e1 => match starD fs ds with
    | some xs => if xs.length ≤ BIG then .ok (.val (.lst xs)) e1 else .bad
    | none => .bad
  | .dnew, env => .ok (.val .dct) env
  | .callv i alts es, env => match env[i]? with
    | some (some (.dat (.fn x))) => (match alts.lookup x with
      | none => .bad
      | some j => (match G.fns[j]? with
        | none => .bad
        | some f => if es.length = f.n ∧ f.io = none then (eva G none 0 es env).bind fun p e1 => (match (p.1.mapM (rdO e1)) with
          | some ds => frR e1 none p.2 (f.sem ds)
          | none => .bad) else .bad))
    | _ => .bad
  | .lc2 tg it tg1 it1 t e own own1, env => (noExc (evi G it env)).bind fun ds e1 => if ds.length ≤ 1000 ∧ own.all (hideB e1) = true ∧ (tgOwn tg).all (fun i => own.contains i) = true ∧ (tgOwn tg1).all (fun i => own1.contains i) = true ∧ own1.all (fun i => own.contains i) = true then
        (noExc (lc2Loop own tg (fun x => evi G it1 x) own1 tg1 (match t with
          | none => none
          | some t => some fun x => truR (ev G t x)) (fun x => (ev G e x).take) ds e1)).bind fun xs e2 => .ok (.val (.lst xs)) (backE e1 e2 own) else .bad
  | .lrng2 a b, env => (ev G a env).rd.bind fun d e1 => (ev G b e1).rd.bind fun c e2 => match d, c with
    | .int i, .int j => if -1000000 ≤ i ∧ i ≤ 1000000 ∧ -1000000 ≤ j ∧ j ≤ 1000000 ∧ j - i ≤ BIG then .ok (.val (.lst (iotaD i (j - i).toNat))) e2 else .bad
    | _, _ => .bad
  | .ext i e, env => if ownB env i then (ev G e env).take.bind fun d e1 => match e1[i]?, d with
    | some (some (.own ds)), .lst xs => if ds.length + xs.length ≤ BIG then .ok (.val .non) (e1.set i (some (.own (ds ++ xs)))) else .bad
    | _, _ => .bad
    else .bad
  | .obin j a b, env => (ev G a env).bind fun x e1 => (ev G b e1).bind fun y e2 => match G.mts[j]?, x, y with
    | some m, .val (.obj C ns ds), .val (.obj C' ns' ds') => if C = m.C ∧ C' = m.C ∧ m.n = 2 then (match m.sem [.obj C ns ds, .obj C' ns' ds'] with
      | .ok d _ => .ok (.val d) e2
      | _ => .bad) else .bad
    | _, _, _ => .bad
  | .oeq neg j a b, env => (ev G a env).bind fun x e1 => (ev G b e1).bind fun y e2 => match G.mts[j]?, x, y with
    | some m, .val (.obj C ns ds), .val d => if C = m.C ∧ m.n = 2 ∧ (match d with
        | .obj C' _ _ => decide (C' = m.C)
        | .raw _ => false
        | .fn _ => false
        | _ => true) = true then (match m.sem [.obj C ns ds, d] with
      | .ok (.bl k) _ => .ok (.val (.bl (neg ^^ k))) e2
      | _ => .bad) else .bad
    | _, _, _ => .bad
/-- items that are kept -/
def evs (G : Ctx) : List IR → Env → R (List D)
  | [], env => .ok [] env
  | e :: es, env => (ev G e env).take.bind fun d e1 => (evs G es e1).bind fun ds e2 => .ok (d :: ds) e2
/-- items that are looked at alone -/
def evr (G : Ctx) : List IR → Env → R (List Opd)
  | [], env => .ok [] env
  | e :: es, env => (ev G e env).bind fun d e1 => (evr G es e1).bind fun ds e2 => .ok (d :: ds) e2
/-- arguments; the one at io is handed over to be changed: its slot -/
def eva (G : Ctx) (io : Option Nat) : Nat → List IR → Env → R (List Opd × List Nat)
  | _, [], env => .ok ([], []) env
  | n, e :: es, env => if io = some n then (ev G e env).bind fun x e1 => (match x with
        | .pl i => (eva G io (n + 1) es e1).bind fun p e2 => .ok (.pl i :: p.1, i :: p.2) e2
        | _ => .bad)
      else (ev G e env).take.bind fun d e1 => (eva G io (n + 1) es e1).bind fun p e2 => .ok (.val d :: p.1, p.2) e2
def evo (G : Ctx) : Option IR → Env → R (Option Int)
  | none, env => .ok none env
  | some e, env => (ev G e env).rd.bind fun d e1 => match d with
    | .int i => .ok (some i) e1
    | _ => .bad
/-- what is walked -/
def evi (G : Ctx) : IT → Env → R (List D)
  | .seq e, env => (ev G e env).take.bind fun d e1 => match seqD d with
    | some ds => .ok ds e1
    | none => .bad
  | .rng1 e, env => (ev G e env).rd.bind fun d e1 => match d with
    | .int j => if -1000000 ≤ j ∧ j ≤ 1000000 then .ok (iotaD 0 j.toNat) e1 else .bad
    | _ => .bad
  | .rng2 a b, env => (ev G a env).rd.bind fun d e1 => (ev G b e1).rd.bind fun c e2 => match d, c with
    | .int i, .int j => if -1000000 ≤ i ∧ i ≤ 1000000 ∧ -1000000 ≤ j ∧ j ≤ 1000000 then .ok (iotaD i (j - i).toNat) e2 else .bad
    | _, _ => .bad
  | .rng3 a b c, env => (ev G a env).rd.bind fun d e1 => (ev G b e1).rd.bind fun d2 e2 => (ev G c e2).rd.bind fun d3 e3 => match d, d2, d3 with
    | .int i, .int j, .int k => if -1000000 ≤ i ∧ i ≤ 1000000 ∧ -1000000 ≤ j ∧ j ≤ 1000000 ∧ 0 < k ∧ k ≤ 1000000 then .ok (stepD i k (if i < j then (j - i - 1) / k + 1 else 0).toNat) e3 else .bad
    | _, _, _ => .bad
  | .txt e, env => (ev G e env).rd.bind fun d e1 => match d with
    | .str s => if s.length ≤ 1000 then .ok (signsD s) e1 else .bad
    | _ => .bad
  | .zip a b, env => (ev G a env).take.bind fun d e1 => (ev G b e1).take.bind fun c e2 => match lstD d, seqD c with
    | some xs, some ys => .ok (zipD xs ys) e2
    | _, _ => .bad
  | .enum a, env => (ev G a env).take.bind fun d e1 => match seqD d with
    | some xs => .ok (enumD 0 xs) e1
    | none => .bad
end
end Mp
set_option maxHeartbeats 2000000
namespace Mp
open PySem L2
variable [TabsW]
def MutAt (env : Env) (σ : L2.St) (a : Addr) : Prop := ∃ (i : Nat) (ds : List D), env[i]? = some (some (Cell.own ds)) ∧ σ[i]? = some (some (V.ref a))
/-- what may be changed here -/
def WW (A : AS) (env : Env) (σ : L2.St) : AS := fun a => A a ∨ MutAt env σ a
def MM (M0 : AS) (env : Env) (σ : L2.St) : AS := fun a => M0 a ∨ MutAt env σ a
/-- what is set apart is there, and the tables tell what they should -/
structure MOk (M : AS) (H : Hp) : Prop where
  al : ∀ a, M a → Lv H a
  tb : ∀ P q, (P, q) ∈ TabsW.T → LamX.TabS H P q
structure EnvR (K : PySem.W.Frag) (H0 : Hp) (M0 A : AS) (env : Env) (σ : L2.St) (H : Hp) : Prop where
  len : env.length = σ.length
  old : ∀ a o, H0 a = some o → ¬ A a → NT o → H a = some o
  alive : ∀ a, Lv H0 a → Lv H a
  tb : ∀ P q, (P, q) ∈ TabsW.T → LamX.TabS H P q
  m0 : ∀ a, M0 a → Lv H a
  aM : ∀ a, A a → M0 a
  a1 : ∀ a b, A a → A b → a = b
  dat : ∀ (i : Nat) (d : D), env[i]? = some (some (Cell.dat d)) → ∃ v, σ[i]? = some (some v) ∧ Rep K H (MM M0 env σ) d v
  own : ∀ (i : Nat) (ds : List D), env[i]? = some (some (Cell.own ds)) → ∃ a xs, σ[i]? = some (some (V.ref a)) ∧ H a = some (.lst xs) ∧ RepL K H (MM M0 env σ) ds xs ∧ ¬ M0 a ∧ ¬ Lv H0 a
  io : ∀ (i : Nat) (ds : List D), env[i]? = some (some (Cell.io ds)) → ∃ a xs, σ[i]? = some (some (V.ref a)) ∧ A a ∧ H a = some (.lst xs) ∧ RepL K H (MM M0 env σ) ds xs
  inj : ∀ (i j : Nat) (a : Addr) (ds es : List D), env[i]? = some (some (Cell.own ds)) → env[j]? = some (some (Cell.own es)) → σ[i]? = some (some (V.ref a)) → σ[j]? = some (some (V.ref a)) → i = j
  io1 : ∀ (i j : Nat) (ds es : List D), env[i]? = some (some (Cell.io ds)) → env[j]? = some (some (Cell.io es)) → i = j
  slf : ∀ (i : Nat) (C : Str) (ns : List Str) (ds : List D), env[i]? = some (some (Cell.slf C ns ds)) → False
def OpdR (K : PySem.W.Frag) (M0 : AS) (env : Env) (σ : L2.St) (H : Hp) : Opd → V → Prop
  | .val d, v => Rep K H (MM M0 env σ) d v
  | .pl i, v => σ[i]? = some (some v) ∧ ∃ c, env[i]? = some (some c)
/-- nothing new is ours, no slot is lost -/
structure Sub (σ : L2.St) (env env' : Env) : Prop where
  own : ∀ a, MutAt env' σ a → MutAt env σ a
  there : ∀ (i : Nat) (c : Cell), env[i]? = some (some c) → ∃ c', env'[i]? = some (some c')
  io : ∀ (i : Nat) (ds : List D), env'[i]? = some (some (Cell.io ds)) → ∃ es, env[i]? = some (some (Cell.io es))
  len : env'.length = env.length
theorem Sub.refl {σ : L2.St} {env : Env} : Sub σ env env := ⟨fun _ z => z, fun _ c h => ⟨c, h⟩, fun _ ds h => ⟨ds, h⟩, rfl⟩
theorem Sub.trans {σ : L2.St} {env e1 e2 : Env} (a : Sub σ env e1) (b : Sub σ e1 e2) : Sub σ env e2 :=
  ⟨fun x z => a.own x (b.own x z), fun i c h => let ⟨c1, h1⟩ := a.there i c h; b.there i c1 h1, fun i ds h => let ⟨es, h1⟩ := b.io i ds h; a.io i es h1, b.len.trans a.len⟩
section
variable {K : PySem.W.Frag} {H0 H H' : Hp} {M0 A : AS} {env env' : Env} {σ : L2.St}
theorem EnvR.freshL (E : EnvR K H0 M0 A env σ H) {p : Addr} (h : ¬ Lv H p) : ¬ MM M0 env σ p ∧ ¬ Lv H0 p := by
  refine ⟨fun z => ?_, fun z => h (E.alive p z)⟩
  rcases z with z | ⟨i, ds, e1, e2⟩
  · exact h (E.m0 p z)
  · obtain ⟨a, xs, s, q, _⟩ := E.own i ds e1
    rw [e2] at s; cases s
    exact h (Lv.lst q)
theorem EnvR.fresh (E : EnvR K H0 M0 A env σ H) {p : Addr} (h : H p = none) : ¬ MM M0 env σ p ∧ ¬ Lv H0 p := E.freshL (nn_of h)
theorem EnvR.mok (E : EnvR K H0 M0 A env σ H) : MOk (MM M0 env σ) H := ⟨fun a ha => Classical.byContradiction fun q => (E.freshL q).1 ha, E.tb⟩
theorem WW.sub (hA : ∀ a, A a → M0 a) : ∀ a, WW A env σ a → MM M0 env σ a := fun a z => z.elim (fun q => .inl (hA a q)) .inr
/-- a step that changes no list of ours -/
theorem EnvR.keep (E : EnvR K H0 M0 A env σ H) (s : Stp (fun _ => False) H H') : EnvR K H0 M0 A env σ H' := by
  have st : Stp (MM M0 env σ) H H' := s.weak fun _ z => z.elim
  refine ⟨E.len, fun a o h n t => s.st a o (E.old a o h n t) id t, fun a h => s.mo a (E.alive a h), fun P q h => s.tb P q h (E.tb P q h), fun a h => s.mo a (E.m0 a h), E.aM, E.a1, fun i d h => ?_, fun i ds h => ?_, fun i ds h => ?_, E.inj, E.io1, E.slf⟩
  · obtain ⟨v, a, b⟩ := E.dat i d h
    exact ⟨v, a, Rep.stp st (fun _ z => z) d v b⟩
  · obtain ⟨a, xs, b, c, d, e⟩ := E.own i ds h
    exact ⟨a, xs, b, s.st a _ c id nt_lst, RepL.stp st (fun _ z => z) ds xs d, e⟩
  · obtain ⟨a, xs, b, c, d, e⟩ := E.io i ds h
    exact ⟨a, xs, b, c, s.st a _ d id nt_lst, RepL.stp st (fun _ z => z) ds xs e⟩
theorem EnvR.new (E : EnvR K H0 M0 A env σ H) {p : Addr} {o : HO} (h : H p = none) : EnvR K H0 M0 A env σ (upd H p o) := E.keep (Stp.new h)
/-- what an operand is worth, read -/
theorem OpdR.rd (E : EnvR K H0 M0 A env σ H) {o : Opd} {v : V} {d : D} (r : OpdR K M0 env σ H o v) (e : rdO env o = some d) : Rep K H (fun _ => False) d v := by
  cases o with
  | val d' =>
    cases e
    exact Rep.stp Stp.refl (fun _ z => z.elim) d v r
  | pl i =>
    obtain ⟨h, c, hc⟩ := r
    have e' : (cellAt env i).map content = some d := e
    unfold cellAt at e'
    rw [hc] at e'
    cases c with
    | dat d' =>
      obtain ⟨v', s, l⟩ := E.dat i d' hc
      rw [h] at s; cases s
      cases e'
      exact Rep.stp Stp.refl (fun _ z => z.elim) d' v l
    | slf C ns ds => exact absurd hc (fun q => E.slf i C ns ds q)
    | own ds =>
      obtain ⟨a, xs, s, q, l, _⟩ := E.own i ds hc
      rw [h] at s; cases s
      cases e'
      unfold content Rep
      exact ⟨a, xs, rfl, .inl ⟨id, Rd.of q⟩, RepL.stp Stp.refl (fun _ z => z.elim) ds xs l⟩
    | io ds =>
      obtain ⟨a, xs, s, _, q, l⟩ := E.io i ds hc
      rw [h] at s; cases s
      cases e'
      unfold content Rep
      exact ⟨a, xs, rfl, .inl ⟨id, Rd.of q⟩, RepL.stp Stp.refl (fun _ z => z.elim) ds xs l⟩
/-- kept: the list is ours no more -/
theorem EnvR.take (E : EnvR K H0 M0 A env σ H) {o : Opd} {v : V} {d : D} (r : OpdR K M0 env σ H o v) (e : takeO env o = some (d, env')) :
    EnvR K H0 M0 A env' σ H ∧ Rep K H (MM M0 env' σ) d v ∧ Sub σ env env' := by
  cases o with
  | val d' =>
    cases e
    exact ⟨E, r, Sub.refl⟩
  | pl i =>
    obtain ⟨h, c, hc⟩ := r
    have e' : (match cellAt env i with | some (.own ds) => some (D.lst ds, env.set i (some (Cell.dat (D.lst ds)))) | some (.dat d) => some (d, env) | _ => none) = some (d, env') := e
    unfold cellAt at e'
    rw [hc] at e'
    cases c with
    | dat d' =>
      obtain ⟨v', s, l⟩ := E.dat i d' hc
      rw [h] at s; cases s
      cases e'
      exact ⟨E, l, Sub.refl⟩
    | slf C ns ds => exact absurd hc (fun q => E.slf i C ns ds q)
    | io ds => cases e'
    | own ds =>
      cases e'
      have hi : i < env.length := (List.getElem?_eq_some_iff.mp hc).1
      obtain ⟨a, xs, s, q, l, nm, h0⟩ := E.own i ds hc
      rw [h] at s; cases s
      have sub : ∀ b, MutAt (env.set i (some (Cell.dat (D.lst ds)))) σ b → MutAt env σ b := fun b ⟨j, es, e1, e2⟩ => by
        by_cases hj : i = j
        · subst hj; rw [List.getElem?_set_self hi] at e1; cases e1
        · rw [List.getElem?_set_ne hj] at e1; exact ⟨j, es, e1, e2⟩
      have subM : ∀ b, MM M0 (env.set i (some (Cell.dat (D.lst ds)))) σ b → MM M0 env σ b := fun b z => z.elim .inl fun q => .inr (sub b q)
      have na : ¬ MM M0 (env.set i (some (Cell.dat (D.lst ds)))) σ a := fun z => by
        rcases z with z | ⟨j, es, e1, e2⟩
        · exact nm z
        · by_cases hj : i = j
          · subst hj; rw [List.getElem?_set_self hi] at e1; cases e1
          · rw [List.getElem?_set_ne hj] at e1
            exact hj (E.inj i j a ds es hc e1 h e2)
      have rl : Rep K H (MM M0 (env.set i (some (Cell.dat (D.lst ds)))) σ) (.lst ds) (.ref a) := by
        unfold Rep
        exact ⟨a, xs, rfl, .inl ⟨na, Rd.of q⟩, RepL.stp Stp.refl subM ds xs l⟩
      have other : ∀ {j c}, (env.set i (some (Cell.dat (D.lst ds))))[j]? = some (some c) → (i = j ∧ c = .dat (.lst ds)) ∨ (i ≠ j ∧ env[j]? = some (some c)) := fun {j c} e1 => by
        by_cases hj : i = j
        · subst hj; rw [List.getElem?_set_self hi] at e1; cases e1; exact .inl ⟨rfl, rfl⟩
        · rw [List.getElem?_set_ne hj] at e1; exact .inr ⟨hj, e1⟩
      refine ⟨⟨by rw [List.length_set]; exact E.len, E.old, E.alive, E.tb, E.m0, E.aM, E.a1, fun j d' e1 => ?_, fun j es e1 => ?_, fun j es e1 => ?_, fun j k b es fs e1 e2 => ?_, fun j k es fs e1 e2 => ?_, fun j C ns es e1 => ?_⟩, rl, sub, fun j c e1 => ?_, fun j es e1 => ?_, List.length_set⟩
      · rcases other e1 with ⟨rfl, e⟩ | ⟨_, e1⟩
        · cases e; exact ⟨_, h, rl⟩
        · obtain ⟨v, a1, a2⟩ := E.dat j d' e1
          exact ⟨v, a1, Rep.stp Stp.refl subM d' v a2⟩
      · rcases other e1 with ⟨rfl, e⟩ | ⟨_, e1⟩
        · cases e
        · obtain ⟨b, ys, a1, a2, a3, a4⟩ := E.own j es e1
          exact ⟨b, ys, a1, a2, RepL.stp Stp.refl subM es ys a3, a4⟩
      · rcases other e1 with ⟨rfl, e⟩ | ⟨_, e1⟩
        · cases e
        · obtain ⟨b, ys, a1, a2, a3, a4⟩ := E.io j es e1
          exact ⟨b, ys, a1, a2, a3, RepL.stp Stp.refl subM es ys a4⟩
      · rcases other e1 with ⟨rfl, e⟩ | ⟨_, e1⟩
        · cases e
        · rcases other e2 with ⟨rfl, e⟩ | ⟨_, e2⟩
          · cases e
          · exact E.inj j k b es fs e1 e2
      · rcases other e1 with ⟨rfl, e⟩ | ⟨_, e1⟩
        · cases e
        · rcases other e2 with ⟨rfl, e⟩ | ⟨_, e2⟩
          · cases e
          · exact E.io1 j k es fs e1 e2
      · rcases other e1 with ⟨rfl, e⟩ | ⟨_, e1⟩
        · cases e
        · exact E.slf j C ns es e1
      · by_cases hj : i = j
        · subst hj; exact ⟨_, List.getElem?_set_self hi⟩
        · exact ⟨c, by rw [List.getElem?_set_ne hj]; exact e1⟩
      · rcases other e1 with ⟨rfl, e⟩ | ⟨_, e1⟩
        · cases e
        · exact ⟨es, e1⟩
/-- a value held while more is reckoned -/
theorem hold {d : D} {v : V} (r : Rep K H (MM M0 env σ) d v) (hA : ∀ a, A a → M0 a) (s : Stp (WW A env σ) H H') (sub : Sub σ env env') : Rep K H' (MM M0 env' σ) d v :=
  Rep.stp (s.weak (WW.sub hA)) (fun a z => z.elim .inl fun q => .inr (sub.own a q)) d v r
theorem holdL {d : List D} {v : List V} (r : RepL K H (MM M0 env σ) d v) (hA : ∀ a, A a → M0 a) (s : Stp (WW A env σ) H H') (sub : Sub σ env env') : RepL K H' (MM M0 env' σ) d v :=
  RepL.stp (s.weak (WW.sub hA)) (fun a z => z.elim .inl fun q => .inr (sub.own a q)) d v r
theorem OpdR.hold {o : Opd} {v : V} (r : OpdR K M0 env σ H o v) (hA : ∀ a, A a → M0 a) (s : Stp (WW A env σ) H H') (sub : Sub σ env env') : OpdR K M0 env' σ H' o v := by
  cases o with
  | val d => exact Mp.hold r hA s sub
  | pl i =>
    obtain ⟨h, c, hc⟩ := r
    exact ⟨h, sub.there i c hc⟩
theorem Stp.trans2 {H1 H2 : Hp} {e1 : Env} (a : Stp (WW A env σ) H H1) (b : Stp (WW A e1 σ) H1 H2) (sub : Sub σ env e1) : Stp (WW A env σ) H H2 :=
  a.trans (b.weak fun x z => z.elim .inl fun q => .inr (sub.own x q))
/-- what follows a reckoning: P of its outcome, W of an error -/
def Sat {α : Type} (K : PySem.W.Frag) (H0 : Hp) (M0 A : AS) (W : WX) (r : R α) (env : Env) (σ : L2.St) (H : Hp) (P : α → Env → Hp → Prop) : Prop := match r with
  | .ok o env' => ∀ H', Stp (WW A env σ) H H' → Sub σ env env' → EnvR K H0 M0 A env' σ H' → P o env' H'
  | .exc C f d env' => ∀ dd v H', Stp (WW A env σ) H H' → Sub σ env env' → EnvR K H0 M0 A env' σ H' → H' dd = some (.xd [(f, v)]) → Rep K H' (MM M0 env' σ) d v → W (.ref (clsAt K C)) (some dd) σ H'
  | .bad => False
variable {W : WX}
theorem Sat.bind {α β : Type} {r : R α} {f : α → Env → R β} {P : β → Env → Hp → Prop} (h : Sat K H0 M0 A W (r.bind f) env σ H P) :
    Sat K H0 M0 A W r env σ H fun o e1 H1 => Sat K H0 M0 A W (f o e1) e1 σ H1 P := by
  cases r with
  | bad => exact h
  | exc C n d e => exact h
  | ok o e1 =>
    intro H1 s1 sub1 E1
    have h' : Sat K H0 M0 A W (f o e1) env σ H P := h
    generalize f o e1 = q at h'
    show Sat K H0 M0 A W q e1 σ H1 P
    cases q with
    | bad => exact h'
    | exc C n d e => exact fun dd v H2 s2 sub2 E2 => h' dd v H2 (s1.trans2 s2 sub1) (sub1.trans sub2) E2
    | ok o2 e2 => exact fun H2 s2 sub2 E2 => h' H2 (s1.trans2 s2 sub1) (sub1.trans sub2) E2
theorem Sat.mono {α : Type} {r : R α} {P P' : α → Env → Hp → Prop} (h : Sat K H0 M0 A W r env σ H P) (m : ∀ o e1 H1, r = .ok o e1 → Stp (WW A env σ) H H1 → Sub σ env e1 → EnvR K H0 M0 A e1 σ H1 → P o e1 H1 → P' o e1 H1) : Sat K H0 M0 A W r env σ H P' := by
  cases r with
  | bad => exact h
  | exc C n d e => exact h
  | ok o e1 => exact fun H1 s1 sub1 E1 => m o e1 H1 rfl s1 sub1 E1 (h H1 s1 sub1 E1)
/-- fewer lists are ours from here on -/
theorem Sat.sub {α : Type} {r : R α} {P : α → Env → Hp → Prop} (h : Sat K H0 M0 A W r env σ H P) (u : Sub σ env env') : Sat K H0 M0 A W r env' σ H P := by
  have w : ∀ x, WW A env' σ x → WW A env σ x := fun x z => z.elim .inl fun q => .inr (u.own x q)
  cases r with
  | bad => exact h
  | exc C n d e => exact fun dd v H2 s2 sub2 E2 => h dd v H2 (s2.weak w) (u.trans sub2) E2
  | ok o e1 => exact fun H1 s1 sub1 E1 => h H1 (s1.weak w) (u.trans sub1) E1
/-- the heap has gone on -/
theorem Sat.step {α : Type} {r : R α} {P : α → Env → Hp → Prop} (h : Sat K H0 M0 A W r env σ H P) (s : Stp (WW A env σ) H H') : Sat K H0 M0 A W r env σ H' P := by
  cases r with
  | bad => exact h
  | exc C n d e => exact fun dd v H2 s2 sub2 E2 => h dd v H2 (s.trans s2) sub2 E2
  | ok o e1 => exact fun H1 s1 sub1 E1 => h H1 (s.trans s1) sub1 E1
end
end Mp
set_option maxHeartbeats 4000000
namespace Mp
open PySem L2
variable [TabsW]
abbrev NoA : AS := fun _ => False
/-- as Rep, the list itself may be one of ours -/
def RepT (K : PySem.W.Frag) (H : Hp) (M : AS) (d : D) (v : V) : Prop := match d with
  | .lst ds => ∃ a xs, v = .ref a ∧ SqL K H a xs ∧ RepL K H M ds xs
  | .tup ds => ∃ a xs, v = .ref a ∧ Rd H a (.tup xs) ∧ RepL K H M ds xs ∧ ¬ M a
  | d => Rep K H M d v
section
variable {K : PySem.W.Frag} {H H' : Hp} {M : AS} {d : D} {v : V}
theorem Rep.top (r : Rep K H M d v) : RepT K H M d v := by
  cases d with
  | lst ds => unfold Rep at r; obtain ⟨a, xs, h1, h2, h3⟩ := r; exact ⟨a, xs, h1, h2.l, h3⟩
  | tup ds => unfold Rep at r; obtain ⟨a, xs, h1, h0, h2, h3⟩ := r; exact ⟨a, xs, h1, h2, h3, h0⟩
  | _ => exact r
theorem RepT.loose (r : RepT K H M d v) : Rep K H NoA d v := by
  cases d with
  | lst ds =>
    obtain ⟨a, xs, h1, h2, h3⟩ := r
    unfold Rep
    exact ⟨a, xs, h1, RdK.ofS id h2, RepL.stp Stp.refl (fun _ z => z.elim) ds xs h3⟩
  | tup ds =>
    obtain ⟨a, xs, h1, h2, h3, _⟩ := r
    unfold Rep
    exact ⟨a, xs, h1, id, h2, RepL.stp Stp.refl (fun _ z => z.elim) ds xs h3⟩
  | non => exact Rep.stp (M := M) Stp.refl (fun _ z => z.elim) _ v r
  | bl b => exact Rep.stp (M := M) Stp.refl (fun _ z => z.elim) _ v r
  | int b => exact Rep.stp (M := M) Stp.refl (fun _ z => z.elim) _ v r
  | str b => exact Rep.stp (M := M) Stp.refl (fun _ z => z.elim) _ v r
  | obj C ns ds => exact Rep.stp (M := M) Stp.refl (fun _ z => z.elim) _ v r
  | raw b => exact Rep.stp (M := M) Stp.refl (fun _ z => z.elim) _ v r
  | dct => exact Rep.stp (M := M) Stp.refl (fun _ z => z.elim) _ v r
  | fn x => exact Rep.stp (M := M) Stp.refl (fun _ z => z.elim) _ v r
theorem RepT.int {i : Int} (r : RepT K H M (.int i) v) : v = .int i := by
  have r' : Rep K H M (.int i) v := r
  unfold Rep at r'; exact r'
theorem RepT.bl {i : Bool} (r : RepT K H M (.bl i) v) : v = .bl i := by
  have r' : Rep K H M (.bl i) v := r
  unfold Rep at r'; exact r'
theorem RepT.str {i : Str} (r : RepT K H M (.str i) v) : v = .str i := by
  have r' : Rep K H M (.str i) v := r
  unfold Rep at r'; exact r'
theorem RepT.non (r : RepT K H M .non v) : v = .non := by
  have r' : Rep K H M .non v := r
  unfold Rep at r'; exact r'
theorem rep_int (i : Int) : Rep K H M (.int i) (.int i) := by unfold Rep; rfl
theorem rep_bl (i : Bool) : Rep K H M (.bl i) (.bl i) := by unfold Rep; rfl
theorem rep_str (i : Str) : Rep K H M (.str i) (.str i) := by unfold Rep; rfl
theorem rep_non : Rep K H M .non .non := by unfold Rep; rfl
/-- a list just made -/
theorem rep_new {p : Addr} {ds : List D} {xs : List V} (hp : H p = none) (hM : ¬ M p) (r : RepL K H M ds xs) : Rep K (upd H p (.lst xs)) M (.lst ds) (.ref p) := by
  unfold Rep
  exact ⟨p, xs, rfl, .inl ⟨hM, Rd.of upd_same⟩, RepL.stp (Stp.new (M := M) hp) (fun _ z => z) ds xs r⟩
theorem rep_newT {p : Addr} {ds : List D} {xs : List V} (hp : H p = none) (hM : ¬ M p) (r : RepL K H M ds xs) : Rep K (upd H p (.tup xs)) M (.tup ds) (.ref p) := by
  unfold Rep
  exact ⟨p, xs, rfl, hM, Rd.of upd_same, RepL.stp (Stp.new (M := M) hp) (fun _ z => z) ds xs r⟩
end
section
variable {K : PySem.W.Frag} {H0 H H' : Hp} {M0 A : AS} {env env' : Env} {σ : L2.St}
theorem OpdR.rdT (E : EnvR K H0 M0 A env σ H) {o : Opd} {v : V} {d : D} (r : OpdR K M0 env σ H o v) (e : rdO env o = some d) : RepT K H (MM M0 env σ) d v := by
  cases o with
  | val d' =>
    cases e
    exact Rep.top r
  | pl i =>
    obtain ⟨h, c, hc⟩ := r
    have e' : (cellAt env i).map content = some d := e
    unfold cellAt at e'
    rw [hc] at e'
    cases c with
    | dat d' =>
      obtain ⟨v', s, l⟩ := E.dat i d' hc
      rw [h] at s; cases s
      cases e'
      exact Rep.top l
    | slf C ns ds => exact absurd hc (fun q => E.slf i C ns ds q)
    | own ds =>
      obtain ⟨a, xs, s, q, l, _⟩ := E.own i ds hc
      rw [h] at s; cases s
      cases e'
      exact ⟨a, xs, rfl, .inl (Rd.of q), l⟩
    | io ds =>
      obtain ⟨a, xs, s, _, q, l⟩ := E.io i ds hc
      rw [h] at s; cases s
      cases e'
      exact ⟨a, xs, rfl, .inl (Rd.of q), l⟩
end
/-- a two-place operation is what f says -/
def OpS (K : PySem.W.Frag) (r : R2) (f : D → D → Option D) : Prop := ∀ (M : AS) (x y : V) (H : Hp) (p q z : D) (Q : VK), RepT K H M p x → RepT K H M q y → (∀ a, H a = none → ¬ M a) → f p q = some z →
  (∀ v H', Stp NoA H H' → Rep K H' M z v → Q v H') → r x y H Q
def rOr (r r' : R2) : R2 := fun x y H Q => r x y H Q ∨ r' x y H Q
theorem OpR.or {X : Cx} {f : Value → Value → Sem Value} {r r' : R2} (a : OpR X f r) (b : OpR X f r') : OpR X f (rOr r r') := fun pins s σ H x y v u Q I rx ry h =>
  h.elim (fun q => a pins s σ H x y v u Q I rx ry q) fun q => b pins s σ H x y v u Q I rx ry q
/-- list + list, however they stand -/
def rCatR (K : PySem.W.Frag) : R2 := fun x y H Q => ∃ l b xs zs, x = .ref l ∧ y = .ref b ∧ SqL K H l xs ∧ SqL K H b zs ∧ xs.length + zs.length ≤ sizeLine ∧ ∀ p, H p = none → Q (.ref p) (upd H p (.lst (xs ++ zs)))
theorem op_catR {X : Cx} : OpR X (binaryOp .Add) (rCatR X.K) := by
  intro pins s σ H x y v u Q I rx ry h
  obtain ⟨l, b, xs, zs, rfl, rfl, hH, hB, hz, q⟩ := h
  cases rx
  cases ry
  obtain ⟨its, r, ⟨⟨cls, dd, data, sl⟩, n, ho, hc, hd0, hd⟩, hz1⟩ := I.list hH
  obtain ⟨its2, r2, ⟨⟨cls2, dd2, data2, sl2⟩, n2, ho2, hc2, hd02, hd2⟩, hz2⟩ := I.list hB
  simp only at hc hd hc2 hd2
  subst hc hd hc2 hd2
  have l1 := r.length
  have l2 := r2.length
  refine PySem.concat_meets ⟨_, ho, rfl⟩ ⟨_, ho2, rfl⟩ PySem.noFill_list_add PySem.seq_list_add PySem.F.slot_list_add PySem.F.entry_list_add (PySem.F.args_list_add_2 _ _) (PyProof.Rows.list_addW l b its.toArray its2.toArray n n2 dd dd2 sl sl2 (by rw [List.size_toArray, List.size_toArray]; omega)) ⟨ho, ho2, ?_⟩
  have ea : its.toArray ++ its2.toArray = (its ++ its2).toArray := by simp
  rw [ea]
  exact ⟨.ref _, _, I.lnew (t' := s.toks) (r.append r2) (by rw [List.length_append]; omega), rfl, q _ I.fresh⟩
def rAddU (K : PySem.W.Frag) : R2 := rOr (rI0 fun i j => .int (i + j)) (rOr (fun x y H Q => ∃ i j, x = .str i ∧ y = .str j ∧ i.length + j.length ≤ sizeLine ∧ Q (.str (i ++ j)) H) (rCatR K))
theorem op_addU {X : Cx} : OpR X (binaryOp .Add) (rAddU X.K) := OpR.or op_add (OpR.or op_add_str op_catR)
theorem s_add {K : PySem.W.Frag} : OpS K (rAddU K) addD := by
  intro M x y H p q z Q rp rq hM e k
  have hs : sizeLine = 16777216 := sizeLine_eq
  unfold addD at e
  split at e
  · cases e
    rw [rp.int, rq.int]
    exact .inl ⟨_, _, rfl, rfl, k _ _ Stp.refl (rep_int _)⟩
  · rename_i a b
    by_cases hl : a.length + b.length ≤ BIG
    · rw [if_pos hl] at e; cases e
      rw [rp.str, rq.str]
      exact .inr (.inl ⟨_, _, rfl, rfl, by unfold BIG at hl; omega, k _ _ Stp.refl (rep_str _)⟩)
    · rw [if_neg hl] at e; cases e
  · rename_i a b
    by_cases hl : a.length + b.length ≤ BIG
    · rw [if_pos hl] at e; cases e
      obtain ⟨la, xs, rfl, h1, r1⟩ := rp
      obtain ⟨lb, ys, rfl, h2, r2⟩ := rq
      refine .inr (.inr ⟨la, lb, xs, ys, rfl, rfl, h1, h2, by have := r1.length; have := r2.length; unfold BIG at hl; omega, fun p hp => k _ _ (Stp.new hp) (rep_new hp (hM p hp) (r1.append r2))⟩)
    · rw [if_neg hl] at e; cases e
  · cases e
theorem s_sub {K : PySem.W.Frag} : OpS K (rI0 fun i j => .int (i - j)) subD := by
  intro M x y H p q z Q rp rq hM e k
  unfold subD at e
  split at e
  · cases e
    rw [rp.int, rq.int]
    exact ⟨_, _, rfl, rfl, k _ _ Stp.refl (rep_int _)⟩
  · cases e
def rMulU : R2 := rI CMul fun i j => .int (i * j)
theorem s_mul {K : PySem.W.Frag} : OpS K rMulU (fun p q => match p, q with | .int _, .int _ => mulD p q | _, _ => none) := by
  intro M x y H p q z Q rp rq hM e k
  dsimp only at e
  split at e
  · rename_i i j
    unfold mulD at e
    dsimp only at e
    split at e
    · rename_i hc
      cases e
      rw [rp.int, rq.int]
      refine ⟨_, _, rfl, rfl, ?_, k _ _ Stp.refl (rep_int _)⟩
      unfold CMul
      have e64 : (2 : Int) ^ 64 = 18446744073709551616 := by decide
      rw [e64]
      exact hc
    · cases e
  · cases e
theorem s_fdiv {K : PySem.W.Frag} : OpS K (rI CDiv fun i j => .int (i / j)) fdivD := by
  intro M x y H p q z Q rp rq hM e k
  unfold fdivD at e
  split at e
  · split at e
    · rename_i hc
      cases e
      rw [rp.int, rq.int]
      exact ⟨_, _, rfl, rfl, hc, k _ _ Stp.refl (rep_int _)⟩
    · cases e
  · cases e
theorem s_mod {K : PySem.W.Frag} : OpS K (rI (fun _ j => 0 < j) fun i j => .int (i % j)) modD := by
  intro M x y H p q z Q rp rq hM e k
  unfold modD at e
  split at e
  · split at e
    · rename_i hc
      cases e
      rw [rp.int, rq.int]
      exact ⟨_, _, rfl, rfl, hc, k _ _ Stp.refl (rep_int _)⟩
    · cases e
  · cases e
theorem s_pow {K : PySem.W.Frag} : OpS K (rI CPow fun i j => .int (i ^ j.toNat)) powD := by
  intro M x y H p q z Q rp rq hM e k
  unfold powD at e
  split at e
  · split at e
    · rename_i hc
      cases e
      rw [rp.int, rq.int]
      exact ⟨_, _, rfl, rfl, hc, k _ _ Stp.refl (rep_int _)⟩
    · cases e
  · cases e
section
mutual
theorem eqD_py : ∀ (d e : D) (p q : PyData), toPy d = some p → toPy e = some q → PyData.eqv p q = eqD d e
  | .non, e, p, q, hp, hq => by
    unfold toPy at hp; cases hp
    cases e <;> (unfold toPy at hq) <;> first | (cases hq; done) | (cases hq; rfl) | (rename_i ds; cases h : toPys ds <;> (rw [h] at hq; cases hq); rfl)
  | .bl b, e, p, q, hp, hq => by
    unfold toPy at hp; cases hp
    cases e <;> (unfold toPy at hq) <;> first | (cases hq; done) | (cases hq; rfl) | (rename_i ds; cases h : toPys ds <;> (rw [h] at hq; cases hq); rfl)
  | .int b, e, p, q, hp, hq => by
    unfold toPy at hp; cases hp
    cases e <;> (unfold toPy at hq) <;> first | (cases hq; done) | (cases hq; rfl) | (rename_i ds; cases h : toPys ds <;> (rw [h] at hq; cases hq); rfl)
  | .str b, e, p, q, hp, hq => by
    unfold toPy at hp; cases hp
    cases e <;> (unfold toPy at hq) <;> first | (cases hq; done) | (cases hq; rfl) | (rename_i ds; cases h : toPys ds <;> (rw [h] at hq; cases hq); rfl)
  | .lst ds, e, p, q, hp, hq => by
    unfold toPy at hp
    cases h1 : toPys ds with
    | none => rw [h1] at hp; cases hp
    | some ps =>
      rw [h1] at hp; cases hp
      cases e with
      | lst es =>
        unfold toPy at hq
        cases h2 : toPys es with
        | none => rw [h2] at hq; cases hq
        | some qs => rw [h2] at hq; cases hq; exact eqDs_py ds es ps qs h1 h2
      | tup es =>
        unfold toPy at hq
        cases h2 : toPys es with
        | none => rw [h2] at hq; cases hq
        | some qs => rw [h2] at hq; cases hq; rfl
      | _ => unfold toPy at hq; cases hq <;> rfl
  | .tup ds, e, p, q, hp, hq => by
    unfold toPy at hp
    cases h1 : toPys ds with
    | none => rw [h1] at hp; cases hp
    | some ps =>
      rw [h1] at hp; cases hp
      cases e with
      | tup es =>
        unfold toPy at hq
        cases h2 : toPys es with
        | none => rw [h2] at hq; cases hq
        | some qs => rw [h2] at hq; cases hq; exact eqDs_py ds es ps qs h1 h2
      | lst es =>
        unfold toPy at hq
        cases h2 : toPys es with
        | none => rw [h2] at hq; cases hq
        | some qs => rw [h2] at hq; cases hq; rfl
      | _ => unfold toPy at hq; cases hq <;> rfl
  | .obj C ns ds, e, p, q, hp, hq => by unfold toPy at hp; cases hp
  | .raw v, e, p, q, hp, hq => by unfold toPy at hp; cases hp
  | .dct, e, p, q, hp, hq => by unfold toPy at hp; cases hp
  | .fn x, e, p, q, hp, hq => by unfold toPy at hp; cases hp
theorem eqDs_py : ∀ (ds es : List D) (ps qs : List PyData), toPys ds = some ps → toPys es = some qs → PyData.eqvAll ps qs = eqDs ds es
  | [], es, ps, qs, hp, hq => by
    unfold toPys at hp; cases hp
    cases es with
    | nil => unfold toPys at hq; cases hq; rfl
    | cons e es =>
      unfold toPys at hq
      cases h1 : toPy e with
      | none => rw [h1] at hq; cases hq
      | some q0 =>
        cases h2 : toPys es with
        | none => rw [h1, h2] at hq; cases hq
        | some q1 => rw [h1, h2] at hq; cases hq; rfl
  | d :: ds, es, ps, qs, hp, hq => by
    unfold toPys at hp
    cases h3 : toPy d with
    | none => rw [h3] at hp; cases hp
    | some p0 =>
      cases h4 : toPys ds with
      | none => rw [h3, h4] at hp; cases hp
      | some p1 =>
        rw [h3, h4] at hp; cases hp
        cases es with
        | nil => unfold toPys at hq; cases hq; rfl
        | cons e es =>
          unfold toPys at hq
          cases h1 : toPy e with
          | none => rw [h1] at hq; cases hq
          | some q0 =>
            cases h2 : toPys es with
            | none => rw [h1, h2] at hq; cases hq
            | some q1 =>
              rw [h1, h2] at hq; cases hq
              show (PyData.eqv p0 q0 && PyData.eqvAll p1 q1) = (eqD d e && eqDs ds es)
              rw [eqD_py d e p0 q0 h3 h1, eqDs_py ds es p1 q1 h4 h2]
end
end
end Mp
set_option maxHeartbeats 4000000
namespace Mp
open PySem L2
variable [TabsW]
mutual
theorem data_py : ∀ (n : Nat) (d : D), dataD n d = true → ∃ p, toPy d = some p ∧ p.canLay0 = true ∧ p.depth ≤ n
  | n, .non, h => ⟨.none, by unfold toPy; rfl, rfl, Nat.zero_le _⟩
  | n, .bl b, h => ⟨.bool b, by unfold toPy; rfl, rfl, Nat.zero_le _⟩
  | n, .int b, h => ⟨.int b, by unfold toPy; rfl, rfl, Nat.zero_le _⟩
  | n, .str b, h => ⟨.str b, by unfold toPy; rfl, by unfold dataD at h; exact h, Nat.zero_le _⟩
  | 0, .lst ds, h => by unfold dataD at h; cases h
  | 0, .tup ds, h => by unfold dataD at h; cases h
  | n + 1, .lst ds, h => by
    unfold dataD at h
    obtain ⟨ps, e, c, z⟩ := datas_py n ds h
    exact ⟨.list ps, by unfold toPy; rw [e] <;> rfl, c, by show PyData.depthAll ps + 1 ≤ n + 1; omega⟩
  | n + 1, .tup ds, h => by
    unfold dataD at h
    obtain ⟨ps, e, c, z⟩ := datas_py n ds h
    exact ⟨.tuple ps, by unfold toPy; rw [e] <;> rfl, c, by show PyData.depthAll ps + 1 ≤ n + 1; omega⟩
  | 0, .obj C ns ds, h => by unfold dataD at h; cases h
  | n + 1, .obj C ns ds, h => by unfold dataD at h; cases h
  | 0, .raw v, h => by unfold dataD at h; cases h
  | n + 1, .raw v, h => by unfold dataD at h; cases h
  | 0, .dct, h => by unfold dataD at h; cases h
  | n + 1, .dct, h => by unfold dataD at h; cases h
  | 0, .fn x, h => by unfold dataD at h; cases h
  | n + 1, .fn x, h => by unfold dataD at h; cases h
theorem datas_py : ∀ (n : Nat) (ds : List D), dataDs n ds = true → ∃ ps, toPys ds = some ps ∧ PyData.canLayAll0 ps = true ∧ PyData.depthAll ps ≤ n
  | n, [], h => ⟨[], by unfold toPys; rfl, rfl, Nat.zero_le _⟩
  | n, d :: ds, h => by
    unfold dataDs at h
    rw [Bool.and_eq_true] at h
    obtain ⟨p, e, c, z⟩ := data_py n d h.1
    obtain ⟨ps, e2, c2, z2⟩ := datas_py n ds h.2
    refine ⟨p :: ps, by unfold toPys; rw [e, e2] <;> rfl, ?_, ?_⟩
    · show (p.canLay0 && PyData.canLayAll0 ps) = true
      rw [c, c2] <;> rfl
    · show max p.depth (PyData.depthAll ps) ≤ n
      omega
end
theorem shaped_of {n : Nat} {d : D} (h : dataD n d = true) (hn : n ≤ 64) : ∃ p, toPy d = some p ∧ SeqAt.shaped p = true := by
  obtain ⟨p, e, c, z⟩ := data_py n d h
  refine ⟨p, e, ?_⟩
  unfold SeqAt.shaped
  rw [c, decide_eq_true (by omega : p.depth ≤ 64)]
  rfl
/-- a comparison is what cmpD says -/
def CmS (K : PySem.W.Frag) (r : R2) (op : COp) : Prop := OpS K r fun p q => (cmpD op p q).map D.bl
theorem OpS.imp {K : PySem.W.Frag} {r : R2} {f g : D → D → Option D} (h : OpS K r f) (i : ∀ p q z, g p q = some z → f p q = some z) : OpS K r g :=
  fun M x y H p q z Q rp rq hM e k => h M x y H p q z Q rp rq hM (i p q z e) k
section
variable {K : PySem.W.Frag}
theorem s_eq : CmS K (rEqD K) .eq := by
  intro M x y H p q z Q rp rq hM e k
  dsimp only [cmpD] at e
  split at e
  · rename_i hd
    cases e
    rw [Bool.and_eq_true] at hd
    obtain ⟨a, ea, sa⟩ := shaped_of hd.1 (by decide)
    obtain ⟨b, eb, sb⟩ := shaped_of hd.2 (by decide)
    refine ⟨a, b, dp_of p x a rp.loose ea, dp_of q y b rq.loose eb, sa, sb, ?_⟩
    rw [eqD_py p q a b ea eb]
    exact k _ _ Stp.refl (rep_bl _)
  · cases e
theorem s_ne : CmS K (rNeD K) .ne := by
  intro M x y H p q z Q rp rq hM e k
  dsimp only [cmpD] at e
  split at e
  · rename_i hd
    cases e
    rw [Bool.and_eq_true] at hd
    obtain ⟨a, ea, sa⟩ := shaped_of hd.1 (by decide)
    obtain ⟨b, eb, sb⟩ := shaped_of hd.2 (by decide)
    refine ⟨a, b, dp_of p x a rp.loose ea, dp_of q y b rq.loose eb, sa, sb, ?_⟩
    rw [eqD_py p q a b ea eb]
    exact k _ _ Stp.refl (rep_bl _)
  · cases e
theorem s_lt : CmS K (rI0 fun i j => .bl (decide (i < j))) .lt := by
  intro M x y H p q z Q rp rq hM e k
  cases p <;> cases q <;> first | (cases e; done) | skip
  cases e
  rw [rp.int, rq.int]
  exact ⟨_, _, rfl, rfl, k _ _ Stp.refl (rep_bl _)⟩
theorem s_le : CmS K (rI0 fun i j => .bl (decide (i ≤ j))) .le := by
  intro M x y H p q z Q rp rq hM e k
  cases p <;> cases q <;> first | (cases e; done) | skip
  cases e
  rw [rp.int, rq.int]
  exact ⟨_, _, rfl, rfl, k _ _ Stp.refl (rep_bl _)⟩
theorem s_gt : CmS K (rI0 fun i j => .bl (decide (j < i))) .gt := by
  intro M x y H p q z Q rp rq hM e k
  cases p <;> cases q <;> first | (cases e; done) | skip
  cases e
  rw [rp.int, rq.int]
  exact ⟨_, _, rfl, rfl, k _ _ Stp.refl (rep_bl _)⟩
theorem s_ge : CmS K (rI0 fun i j => .bl (decide (j ≤ i))) .ge := by
  intro M x y H p q z Q rp rq hM e k
  cases p <;> cases q <;> first | (cases e; done) | skip
  cases e
  rw [rp.int, rq.int]
  exact ⟨_, _, rfl, rfl, k _ _ Stp.refl (rep_bl _)⟩
theorem isNon_of {H : Hp} {M : AS} {p : D} {x : V} (r : RepT K H M p x) (hr : ∀ v, p ≠ .raw v) : decide (x = .non) = isNon p := by
  cases p with
  | non => rw [r.non]; rfl
  | bl b => rw [r.bl]; rfl
  | int b => rw [r.int]; rfl
  | str b => rw [r.str]; rfl
  | lst ds => obtain ⟨a, xs, rfl, _⟩ := r; rfl
  | tup ds => obtain ⟨a, xs, rfl, _⟩ := r; rfl
  | obj C ns ds =>
    have r' : Rep K H M (.obj C ns ds) x := r
    unfold Rep at r'
    obtain ⟨a, _, _, rfl, _⟩ := r'
    rfl
  | raw v => exact absurd rfl (hr v)
  | dct =>
    have r' : Rep K H M .dct x := r
    unfold Rep at r'
    obtain ⟨a, rfl, _⟩ := r'
    rfl
  | fn y =>
    have r' : Rep K H M (.fn y) x := r
    unfold Rep at r'
    subst r'
    rfl
theorem s_is : CmS K (rOr (fun x y H Q => y = .non ∧ Q (.bl (decide (x = .non))) H) (fun x y H Q => ∃ a b, x = .bl a ∧ y = .bl b ∧ Q (.bl (decide (a = b))) H)) .is_ := by
  intro M x y H p q z Q rp rq hM e k
  cases q with
  | non =>
    have hr : ∀ v, p ≠ .raw v := fun v z => by subst z; cases e
    have e' : some (D.bl (isNon p)) = some z := by cases p <;> first | exact e | exact absurd rfl (hr _)
    cases e'
    refine .inl ⟨rq.non, ?_⟩
    rw [isNon_of rp hr]
    exact k _ _ Stp.refl (rep_bl _)
  | bl b =>
    cases p <;> first | (cases e; done) | skip
    cases e
    rw [rp.bl, rq.bl]
    exact .inr ⟨_, _, rfl, rfl, k _ _ Stp.refl (rep_bl _)⟩
  | _ => cases p <;> cases e
theorem s_isnot : CmS K (rOr (fun x y H Q => y = .non ∧ Q (.bl (!decide (x = .non))) H) (fun x y H Q => ∃ a b, x = .bl a ∧ y = .bl b ∧ Q (.bl (!decide (a = b))) H)) .isnot := by
  intro M x y H p q z Q rp rq hM e k
  cases q with
  | non =>
    have hr : ∀ v, p ≠ .raw v := fun v z => by subst z; cases e
    have e' : some (D.bl (!isNon p)) = some z := by cases p <;> first | exact e | exact absurd rfl (hr _)
    cases e'
    refine .inl ⟨rq.non, ?_⟩
    rw [isNon_of rp hr]
    exact k _ _ Stp.refl (rep_bl _)
  | bl b =>
    cases p <;> first | (cases e; done) | skip
    cases e
    rw [rp.bl, rq.bl]
    exact .inr ⟨_, _, rfl, rfl, k _ _ Stp.refl (rep_bl _)⟩
  | _ => cases p <;> cases e
theorem atI_rep {H : Hp} {M : AS} {ds : List D} {xs : List V} {i : Int} {d : D} (r : RepL K H M ds xs) (e : atI ds i = some d) : ∃ x, atI xs i = some x ∧ Rep K H M d x := by
  unfold atI at e ⊢
  rw [r.length] at e
  cases h : ixN xs.length i with
  | none => rw [h] at e; cases e
  | some j =>
    rw [h] at e
    exact r.get e
theorem s_ix : OpS K (rOr (rIxL K) (rIxT K)) ixD := by
  intro M x y H p q z Q rp rq hM e k
  unfold ixD at e
  split at e
  · obtain ⟨a, xs, rfl, h, r⟩ := rp
    obtain ⟨w, e1, e2⟩ := atI_rep r e
    exact .inl ⟨a, xs, _, w, rfl, rq.int, h, e1, k _ _ Stp.refl e2⟩
  · obtain ⟨a, xs, rfl, h, r, _⟩ := rp
    obtain ⟨w, e1, e2⟩ := atI_rep r e
    exact .inr ⟨a, xs, _, w, rfl, rq.int, Rd.t h, e1, k _ _ Stp.refl e2⟩
  · cases e
/-- a call on values is what f says -/
def CaS (K : PySem.W.Frag) (r : List V → Hp → VK → Prop) (f : List D → Option D) : Prop := ∀ (M : AS) (xs : List V) (H : Hp) (ps : List D) (z : D) (Q : VK), Paired (RepT K H M) ps xs → (∀ a, H a = none → ¬ M a) → f ps = some z →
  (∀ v H', Stp NoA H H' → Rep K H' M z v → Q v H') → r xs H Q
theorem intsD_of : ∀ {ds : List D} {ns : List Int}, intsD ds = some ns → ds = ns.map D.int
  | [], ns, h => by unfold intsD at h; cases h; rfl
  | d :: ds, ns, h => by
    cases d with
    | int i =>
      unfold intsD at h
      cases e : intsD ds with
      | none => rw [e] at h; cases h
      | some ms => rw [e] at h; cases h; rw [intsD_of e]; rfl
    | _ => unfold intsD at h; cases h
theorem boolsD_of : ∀ {ds : List D} {ns : List Bool}, boolsD ds = some ns → ds = ns.map D.bl
  | [], ns, h => by unfold boolsD at h; cases h; rfl
  | d :: ds, ns, h => by
    cases d with
    | bl i =>
      unfold boolsD at h
      cases e : boolsD ds with
      | none => rw [e] at h; cases h
      | some ms => rw [e] at h; cases h; rw [boolsD_of e]; rfl
    | _ => unfold boolsD at h; cases h
theorem s_len : CaS K (fun xs H Q => ∃ x n, xs = [x] ∧ LenV K x H n ∧ Q (.int n) H) (bltD .len) := by
  intro M xs H ps z Q r hM e k
  have hs : sizeLine = 16777216 := sizeLine_eq
  cases r with
  | nil => cases e
  | cons r1 r2 =>
    rename_i d ds x xs'
    cases r2 with
    | cons a b => cases d <;> cases e
    | nil =>
      cases d with
      | lst es =>
        cases e
        obtain ⟨a, ys, rfl, h, rr⟩ := r1
        exact ⟨_, _, rfl, .inl ⟨ys, h, rfl⟩, by rw [← rr.length]; exact k _ _ Stp.refl (rep_int _)⟩
      | tup es =>
        cases e
        obtain ⟨a, ys, rfl, h, rr, _⟩ := r1
        exact ⟨_, _, rfl, .inr ⟨ys, Rd.t h, rfl⟩, by rw [← rr.length]; exact k _ _ Stp.refl (rep_int _)⟩
      | str s =>
        have e' : (if s.length ≤ 1000000 then some (D.int s.length) else none) = some z := e
        by_cases hl : s.length ≤ 1000000
        · rw [if_pos hl] at e'; cases e'
          rw [r1.str]
          exact ⟨_, _, rfl, ⟨by omega, rfl⟩, k _ _ Stp.refl (rep_int _)⟩
        · rw [if_neg hl] at e'; cases e'
      | _ => cases e
end
end Mp
set_option maxHeartbeats 4000000
namespace Mp
open PySem L2
variable [TabsW]
section
variable {K : PySem.W.Frag}
theorem one_of {H : Hp} {M : AS} {ps : List D} {xs : List V} {f : List D → Option D} {z : D} (r : Paired (RepT K H M) ps xs) (e : f ps = some z) (h0 : f [] = none) (h2 : ∀ a b c, f (a :: b :: c) = none) : ∃ d x, ps = [d] ∧ xs = [x] ∧ RepT K H M d x := by
  cases r with
  | nil => rw [h0] at e; cases e
  | cons r1 r2 =>
    cases r2 with
    | nil => exact ⟨_, _, rfl, rfl, r1⟩
    | cons a b => rw [h2] at e; cases e
theorem two_of {H : Hp} {M : AS} {ps : List D} {xs : List V} {f : List D → Option D} {z : D} (r : Paired (RepT K H M) ps xs) (e : f ps = some z) (h0 : f [] = none) (h1 : ∀ a, f [a] = none) (h3 : ∀ a b c d, f (a :: b :: c :: d) = none) :
    ∃ d x d' x', ps = [d, d'] ∧ xs = [x, x'] ∧ RepT K H M d x ∧ RepT K H M d' x' := by
  cases r with
  | nil => rw [h0] at e; cases e
  | cons r1 r2 =>
    cases r2 with
    | nil => rw [h1] at e; cases e
    | cons a b =>
      cases b with
      | nil => exact ⟨_, _, _, _, rfl, rfl, r1, a⟩
      | cons c d => rw [h3] at e; cases e
theorem s_int : CaS K (fun xs H Q => (∃ i, xs = [.int i] ∧ Q (.int i) H) ∨ ∃ k, xs = [.bl k] ∧ Q (.int (if k then 1 else 0)) H) (bltD .int) := by
  intro M xs H ps z Q r hM e k
  obtain ⟨d, x, rfl, rfl, rd⟩ := one_of r e rfl (fun a b c => by cases a <;> rfl)
  cases d <;> first | (cases e; done) | skip
  · cases e; rw [rd.bl]; exact .inr ⟨_, rfl, k _ _ Stp.refl (rep_int _)⟩
  · cases e; rw [rd.int]; exact .inl ⟨_, rfl, k _ _ Stp.refl (rep_int _)⟩
theorem s_max2 : CaS K (fun xs H Q => ∃ i j, xs = [.int i, .int j] ∧ Q (.int (if j > i then j else i)) H) (bltD .max2) := by
  intro M xs H ps z Q r hM e k
  obtain ⟨d, x, d', x', rfl, rfl, rd, rd'⟩ := two_of r e rfl (fun a => by cases a <;> rfl) (fun a b c d => by cases a <;> cases b <;> rfl)
  cases d <;> cases d' <;> first | (cases e; done) | skip
  cases e; rw [rd.int, rd'.int]; exact ⟨_, _, rfl, k _ _ Stp.refl (rep_int _)⟩
theorem s_min2 : CaS K (fun xs H Q => ∃ i j, xs = [.int i, .int j] ∧ Q (.int (if j < i then j else i)) H) (bltD .min2) := by
  intro M xs H ps z Q r hM e k
  obtain ⟨d, x, d', x', rfl, rfl, rd, rd'⟩ := two_of r e rfl (fun a => by cases a <;> rfl) (fun a b c d => by cases a <;> cases b <;> rfl)
  cases d <;> cases d' <;> first | (cases e; done) | skip
  cases e; rw [rd.int, rd'.int]; exact ⟨_, _, rfl, k _ _ Stp.refl (rep_int _)⟩
theorem s_tuple : CaS K (fun xs H Q => ∃ p ys, xs = [.ref p] ∧ ((SqL K H p ys ∧ ∀ l, H l = none → Q (.ref l) (upd H l (.tup ys))) ∨ (SqT K H p ys ∧ Q (.ref p) H))) (bltD .tuple) := by
  intro M xs H ps z Q r hM e k
  obtain ⟨d, x, rfl, rfl, rd⟩ := one_of r e rfl (fun a b c => by cases a <;> rfl)
  cases d <;> first | (cases e; done) | skip
  · cases e
    obtain ⟨a, ys, rfl, hr, rr⟩ := rd
    exact ⟨a, ys, rfl, .inl ⟨hr, fun l hl => k _ _ (Stp.new hl) (rep_newT hl (hM l hl) rr)⟩⟩
  · cases e
    obtain ⟨a, ys, rfl, hr, rr, n⟩ := rd
    exact ⟨a, ys, rfl, .inr ⟨Rd.t hr, k _ _ Stp.refl (by unfold Rep; exact ⟨a, ys, rfl, n, hr, rr⟩)⟩⟩
theorem s_all : CaS K (rAll K) (bltD .all) := by
  intro M xs H ps z Q r hM e k
  obtain ⟨d, x, rfl, rfl, rd⟩ := one_of r e rfl (fun a b c => by cases a <;> rfl)
  cases d <;> first | (cases e; done) | skip
  rename_i ds
  have e' : (boolsD ds).map (fun bs => D.bl (bs.all id)) = some z := e
  cases h : boolsD ds with
  | none => rw [h] at e'; cases e'
  | some ns =>
    rw [h] at e'; cases e'
    have := boolsD_of h
    subst this
    obtain ⟨a, ys, rfl, hr, rr⟩ := rd
    have := rr.bools
    subst this
    exact ⟨a, ns, rfl, hr, k _ _ Stp.refl (rep_bl _)⟩
end
end Mp
set_option maxHeartbeats 4000000
namespace Mp
open PySem L2
variable [TabsW]
def IoA (io : Option Nat) (vs : List V) : AS := fun a => ∃ i, io = some i ∧ vs[i]? = some (.ref a)
def ArgR (K : PySem.W.Frag) (H : Hp) (M : AS) (io : Option Nat) (ds : List D) (vs : List V) : Prop := ds.length = vs.length ∧ ∀ (i : Nat) (d : D) (v : V), ds[i]? = some d → vs[i]? = some v →
  (io ≠ some i → Rep K H M d v) ∧ (io = some i → ∃ a xs es, d = .lst es ∧ v = .ref a ∧ M a ∧ H a = some (.lst xs) ∧ RepL K H M es xs)
def OutR (K : PySem.W.Frag) (H : Hp) (M : AS) (io : Option Nat) (out : List D) (vs : List V) : Prop := ∀ i, io = some i → ∃ a xs, vs[i]? = some (.ref a) ∧ H a = some (.lst xs) ∧ RepL K H M out xs
/-- what a def with the sense F promises: n arguments, the one at io is changed -/
def spF (K : PySem.W.Frag) (n : Nat) (io : Option Nat) (F : List D → FR) : Sp := fun vs H Q E => vs.length = n ∧ ∃ (M : AS) (ds : List D), MOk M H ∧ ArgR K H M io ds vs ∧
  (match F ds with
   | .ok d out => ∀ v H', Stp (IoA io vs) H H' → OutR K H' M io out vs → Rep K H' M d v → Q v H'
   | .exc C f d out => ∀ dd v H', Stp (IoA io vs) H H' → OutR K H' M io out vs → H' dd = some (.xd [(f, v)]) → Rep K H' M d v → E (.ref (clsAt K C)) (some dd) H'
   | .bad => False)
section
variable {K : PySem.W.Frag} {H0 H H' : Hp} {M0 A : AS} {env env' : Env} {σ : L2.St}
theorem EnvR.setOwn (E : EnvR K H0 M0 A env σ H) {i : Nat} {ds out : List D} {a : Addr} {ys : List V} (hc : env[i]? = some (some (Cell.own ds))) (ha : σ[i]? = some (some (V.ref a))) (s : Stp (fun x => x = a) H H') (h' : H' a = some (.lst ys))
    (r : RepL K H' (MM M0 env σ) out ys) : EnvR K H0 M0 A (env.set i (some (Cell.own out))) σ H' ∧ Sub σ env (env.set i (some (Cell.own out))) ∧ MM M0 (env.set i (some (Cell.own out))) σ = MM M0 env σ := by
  have hi : i < env.length := (List.getElem?_eq_some_iff.mp hc).1
  obtain ⟨a', xs, sa, q, l, nm, h0⟩ := E.own i ds hc
  rw [ha] at sa; cases sa
  have mutI : ∀ b, MutAt (env.set i (some (Cell.own out))) σ b ↔ MutAt env σ b := fun b => by
    constructor
    · rintro ⟨j, es, e1, e2⟩
      by_cases hj : i = j
      · subst hj; exact ⟨i, ds, hc, e2⟩
      · rw [List.getElem?_set_ne hj] at e1; exact ⟨j, es, e1, e2⟩
    · rintro ⟨j, es, e1, e2⟩
      by_cases hj : i = j
      · subst hj; exact ⟨i, out, List.getElem?_set_self hi, e2⟩
      · exact ⟨j, es, by rw [List.getElem?_set_ne hj]; exact e1, e2⟩
  have eM : MM M0 (env.set i (some (Cell.own out))) σ = MM M0 env σ := by
    funext b
    exact propext ⟨fun z => z.elim .inl fun q => .inr ((mutI b).mp q), fun z => z.elim .inl fun q => .inr ((mutI b).mpr q)⟩
  have Ma : MM M0 env σ a := .inr ⟨i, ds, hc, ha⟩
  have st : Stp (MM M0 env σ) H H' := s.weak fun x e => e ▸ Ma
  have other : ∀ {j c}, (env.set i (some (Cell.own out)))[j]? = some (some c) → (i = j ∧ c = .own out) ∨ (i ≠ j ∧ env[j]? = some (some c)) := fun {j c} e1 => by
    by_cases hj : i = j
    · subst hj; rw [List.getElem?_set_self hi] at e1; cases e1; exact .inl ⟨rfl, rfl⟩
    · rw [List.getElem?_set_ne hj] at e1; exact .inr ⟨hj, e1⟩
  refine ⟨⟨by rw [List.length_set]; exact E.len, fun b o e n t => ?_, fun b h => s.mo b (E.alive b h), fun P q h => s.tb P q h (E.tb P q h), fun b hb => s.mo b (E.m0 b hb), E.aM, E.a1, fun j d' e1 => ?_, fun j es e1 => ?_, fun j es e1 => ?_, fun j k b es fs e1 e2 e3 e4 => ?_, fun j k es fs e1 e2 => ?_, fun j C ns es e1 => ?_⟩, ⟨fun b z => (mutI b).mp z, fun j c e1 => ?_, fun j es e1 => ?_, List.length_set⟩, eM⟩
  · exact s.st b o (E.old b o e n t) (fun z => h0 ⟨o, by rw [← z]; exact e, t⟩) t
  · rw [eM]
    rcases other e1 with ⟨rfl, e⟩ | ⟨_, e1⟩
    · cases e
    · obtain ⟨v, a1, a2⟩ := E.dat j d' e1
      exact ⟨v, a1, Rep.stp st (fun _ z => z) d' v a2⟩
  · rw [eM]
    rcases other e1 with ⟨rfl, e⟩ | ⟨hj, e1⟩
    · cases e; exact ⟨a, ys, ha, h', r, nm, h0⟩
    · obtain ⟨b, zs, a1, a2, a3, a4⟩ := E.own j es e1
      exact ⟨b, zs, a1, s.st b _ a2 (fun z => by subst z; exact hj (E.inj i j b ds es hc e1 ha a1)) nt_lst, RepL.stp st (fun _ z => z) es zs a3, a4⟩
  · rw [eM]
    rcases other e1 with ⟨rfl, e⟩ | ⟨hj, e1⟩
    · cases e
    · obtain ⟨b, zs, a1, a2, a3, a4⟩ := E.io j es e1
      exact ⟨b, zs, a1, a2, s.st b _ a3 (fun z => by subst z; exact nm (E.aM b a2)) nt_lst, RepL.stp st (fun _ z => z) es zs a4⟩
  · rcases other e1 with ⟨rfl, e⟩ | ⟨_, e1⟩
    · rcases other e2 with ⟨rfl, _⟩ | ⟨_, e2⟩
      · rfl
      · exact E.inj i k b ds fs hc e2 e3 e4
    · rcases other e2 with ⟨rfl, e⟩ | ⟨_, e2⟩
      · exact E.inj j i b es ds e1 hc e3 e4
      · exact E.inj j k b es fs e1 e2 e3 e4
  · rcases other e1 with ⟨rfl, e⟩ | ⟨_, e1⟩
    · cases e
    · rcases other e2 with ⟨rfl, e⟩ | ⟨_, e2⟩
      · cases e
      · exact E.io1 j k es fs e1 e2
  · rcases other e1 with ⟨rfl, e⟩ | ⟨_, e1⟩
    · cases e
    · exact E.slf j C ns es e1
  · by_cases hj : i = j
    · subst hj; exact ⟨_, List.getElem?_set_self hi⟩
    · exact ⟨c, by rw [List.getElem?_set_ne hj]; exact e1⟩
  · rcases other e1 with ⟨rfl, e⟩ | ⟨_, e1⟩
    · cases e
    · exact ⟨es, e1⟩
theorem EnvR.setIo (E : EnvR K H0 M0 A env σ H) {i : Nat} {ds out : List D} {a : Addr} {ys : List V} (hc : env[i]? = some (some (Cell.io ds))) (ha : σ[i]? = some (some (V.ref a))) (s : Stp (fun x => x = a) H H') (h' : H' a = some (.lst ys))
    (r : RepL K H' (MM M0 env σ) out ys) : EnvR K H0 M0 A (env.set i (some (Cell.io out))) σ H' ∧ Sub σ env (env.set i (some (Cell.io out))) ∧ MM M0 (env.set i (some (Cell.io out))) σ = MM M0 env σ := by
  have hi : i < env.length := (List.getElem?_eq_some_iff.mp hc).1
  obtain ⟨a', xs, sa, Aa, q, l⟩ := E.io i ds hc
  rw [ha] at sa; cases sa
  have mutI : ∀ b, MutAt (env.set i (some (Cell.io out))) σ b ↔ MutAt env σ b := fun b => by
    constructor
    · rintro ⟨j, es, e1, e2⟩
      by_cases hj : i = j
      · subst hj; rw [List.getElem?_set_self hi] at e1; cases e1
      · rw [List.getElem?_set_ne hj] at e1; exact ⟨j, es, e1, e2⟩
    · rintro ⟨j, es, e1, e2⟩
      by_cases hj : i = j
      · subst hj; rw [hc] at e1; cases e1
      · exact ⟨j, es, by rw [List.getElem?_set_ne hj]; exact e1, e2⟩
  have eM : MM M0 (env.set i (some (Cell.io out))) σ = MM M0 env σ := by
    funext b
    exact propext ⟨fun z => z.elim .inl fun q => .inr ((mutI b).mp q), fun z => z.elim .inl fun q => .inr ((mutI b).mpr q)⟩
  have Ma : MM M0 env σ a := .inl (E.aM a Aa)
  have st : Stp (MM M0 env σ) H H' := s.weak fun x e => e ▸ Ma
  have other : ∀ {j c}, (env.set i (some (Cell.io out)))[j]? = some (some c) → (i = j ∧ c = .io out) ∨ (i ≠ j ∧ env[j]? = some (some c)) := fun {j c} e1 => by
    by_cases hj : i = j
    · subst hj; rw [List.getElem?_set_self hi] at e1; cases e1; exact .inl ⟨rfl, rfl⟩
    · rw [List.getElem?_set_ne hj] at e1; exact .inr ⟨hj, e1⟩
  refine ⟨⟨by rw [List.length_set]; exact E.len, fun b o e n t => ?_, fun b h => s.mo b (E.alive b h), fun P q h => s.tb P q h (E.tb P q h), fun b hb => s.mo b (E.m0 b hb), E.aM, E.a1, fun j d' e1 => ?_, fun j es e1 => ?_, fun j es e1 => ?_, fun j k b es fs e1 e2 e3 e4 => ?_, fun j k es fs e1 e2 => ?_, fun j C ns es e1 => ?_⟩, ⟨fun b z => (mutI b).mp z, fun j c e1 => ?_, fun j es e1 => ?_, List.length_set⟩, eM⟩
  · exact s.st b o (E.old b o e n t) (fun z => n (z ▸ Aa)) t
  · rw [eM]
    rcases other e1 with ⟨rfl, e⟩ | ⟨_, e1⟩
    · cases e
    · obtain ⟨v, a1, a2⟩ := E.dat j d' e1
      exact ⟨v, a1, Rep.stp st (fun _ z => z) d' v a2⟩
  · rw [eM]
    rcases other e1 with ⟨rfl, e⟩ | ⟨hj, e1⟩
    · cases e
    · obtain ⟨b, zs, a1, a2, a3, a4, a5⟩ := E.own j es e1
      exact ⟨b, zs, a1, s.st b _ a2 (fun z => by subst z; exact a4 (E.aM b Aa)) nt_lst, RepL.stp st (fun _ z => z) es zs a3, a4, a5⟩
  · rw [eM]
    rcases other e1 with ⟨rfl, e⟩ | ⟨hj, e1⟩
    · cases e; exact ⟨a, ys, ha, Aa, h', r⟩
    · exact absurd (E.io1 i j ds es hc e1) hj
  · rcases other e1 with ⟨rfl, e⟩ | ⟨_, e1⟩
    · cases e
    · rcases other e2 with ⟨rfl, e⟩ | ⟨_, e2⟩
      · cases e
      · exact E.inj j k b es fs e1 e2 e3 e4
  · rcases other e1 with ⟨rfl, e⟩ | ⟨_, e1⟩
    · rcases other e2 with ⟨rfl, _⟩ | ⟨_, e2⟩
      · rfl
      · exact E.io1 i k ds fs hc e2
    · rcases other e2 with ⟨rfl, e⟩ | ⟨_, e2⟩
      · exact E.io1 j i es ds e1 hc
      · exact E.io1 j k es fs e1 e2
  · rcases other e1 with ⟨rfl, e⟩ | ⟨_, e1⟩
    · cases e
    · exact E.slf j C ns es e1
  · by_cases hj : i = j
    · subst hj; exact ⟨_, List.getElem?_set_self hi⟩
    · exact ⟨c, by rw [List.getElem?_set_ne hj]; exact e1⟩
  · rcases other e1 with ⟨rfl, e⟩ | ⟨_, e1⟩
    · exact ⟨ds, hc⟩
    · exact ⟨es, e1⟩
end
variable (G : Ctx) (W : WX) (K : PySem.W.Frag)
def tI (i : IR) : TE := fun σ H Q => ∃ H0 M0 A env, EnvR K H0 M0 A env σ H ∧ Sat K H0 M0 A W (ev G i env) env σ H fun o e1 H1 => ∀ v, OpdR K M0 e1 σ H1 o v → Q v H1
def tIt (i : IR) : TT := fun σ H Q => ∃ H0 M0 A env, EnvR K H0 M0 A env σ H ∧ Sat K H0 M0 A W (truR (ev G i env)) env σ H fun b e1 H1 => Q b H1
def tIs (is : List IR) : TA := fun σ H Q => ∃ H0 M0 A env, EnvR K H0 M0 A env σ H ∧ Sat K H0 M0 A W (evs G is env) env σ H fun ds e1 H1 => ∀ vs, RepL K H1 (MM M0 e1 σ) ds vs → Q vs H1
def tIr (is : List IR) : TA := fun σ H Q => ∃ H0 M0 A env, EnvR K H0 M0 A env σ H ∧ Sat K H0 M0 A W (evr G is env) env σ H fun os e1 H1 => ∀ vs, Paired (OpdR K M0 e1 σ H1) os vs → Q vs H1
def tIo (i : Option IR) : TO := fun σ H Q => ∃ H0 M0 A env, EnvR K H0 M0 A env σ H ∧ Sat K H0 M0 A W (evo G i env) env σ H fun o e1 H1 => Q o H1
def tIa (io : Option Nat) (n : Nat) (is : List IR) : TA := fun σ H Q => ∃ H0 M0 A env, EnvR K H0 M0 A env σ H ∧ Sat K H0 M0 A W (eva G io n is env) env σ H fun p e1 H1 => ∀ vs, Paired (OpdR K M0 e1 σ H1) p.1 vs → Q vs H1
end Mp
set_option maxHeartbeats 4000000
namespace Mp
open PySem L2
variable [TabsW]
section
variable {X : Cx} {G : Ctx} {W : WX}
theorem PE.by_ {e : Expr} {t t' : TE} (h : PE X e t) (i : ∀ σ H Q, t' σ H Q → t σ H Q) : PE X e t' := ⟨fun pins s σ H Q I q => h.run pins s σ H Q I (i σ H Q q)⟩
theorem PT.by_ {e : Expr} {t t' : TT} (h : PT X e t) (i : ∀ σ H Q, t' σ H Q → t σ H Q) : PT X e t' := ⟨fun pins s σ H Q I q => h.run pins s σ H Q I (i σ H Q q)⟩
theorem PW.by_ {e : Expr} {t t' : TT} (h : PW X e t) (i : ∀ σ H Q, t' σ H Q → t σ H Q) : PW X e t' := ⟨fun wh pins s σ H Q I q => h.run wh pins s σ H Q I (i σ H Q q)⟩
theorem PA.by_ {e : List Expr} {t t' : TA} (h : PA X e t) (i : ∀ σ H Q, t' σ H Q → t σ H Q) : PA X e t' := ⟨fun pos pins s σ H Q I q => h.run pos pins s σ H Q I (i σ H Q q)⟩
theorem PO.by_ {e : Option Expr} {t t' : TO} (h : PO X e t) (i : ∀ σ H Q, t' σ H Q → t σ H Q) : PO X e t' := ⟨fun pins s σ H Q I q => h.run pins s σ H Q I (i σ H Q q)⟩
theorem Stp.no {M : AS} {H H' : Hp} (s : Stp NoA H H') : Stp M H H' := s.weak fun _ z => z.elim
/-- a constant -/
theorem e_c {e : Expr} {d : D} {v : V} (h : PE X e (tC v)) (r : ∀ H M, Rep X.K H M d v) : PE X e (tI G W X.K (.c d)) := PE.by_ h fun σ H Q q => by
  obtain ⟨H0, M0, A, env, E, q⟩ := q
  unfold ev at q
  exact q H Stp.refl Sub.refl E v (r H _)
theorem e_v {x : Str} {pos : Pos} {i : Nat} (hN : X.N[i]? = some x) (hv : Vis X.env.scope x) (hd : (x == ("__debug__" : Str)) = false) (hcd : (x == ("__classdict__" : Str)) = false) : PE X (.Name x pos) (tI G W X.K (.v i)) := PE.by_ (pe_var hN hv hd hcd) fun σ H Q q => by
  obtain ⟨H0, M0, A, env, E, q⟩ := q
  unfold ev at q
  cases e : env[i]? with
  | none =>
    have : cellAt env i = none := by unfold cellAt; rw [e]; rfl
    rw [this] at q
    exact q.elim
  | some o =>
    have hc : cellAt env i = o := by unfold cellAt; rw [e]; rfl
    rw [hc] at q
    cases o with
    | none => exact q.elim
    | some c =>
      cases c with
      | dat d =>
        obtain ⟨v, s, r⟩ := E.dat i d e
        exact ⟨v, s, q H Stp.refl Sub.refl E v r⟩
      | own ds =>
        obtain ⟨a, xs, s, r⟩ := E.own i ds e
        exact ⟨_, s, q H Stp.refl Sub.refl E _ ⟨s, _, e⟩⟩
      | io ds =>
        obtain ⟨a, xs, s, r⟩ := E.io i ds e
        exact ⟨_, s, q H Stp.refl Sub.refl E _ ⟨s, _, e⟩⟩
      | slf C ns ds => exact q.elim
/-- behind the operands of a two-place operation -/
theorem op_end {K : PySem.W.Frag} {H0 H : Hp} {M0 A : AS} {env : Env} {σ : L2.St} {Q : VK} {r : R2} {f : D → D → Option D} {x y : V} {o o2 : Opd} (hs : OpS K r f) (E : EnvR K H0 M0 A env σ H) (hx : OpdR K M0 env σ H o x) (hy : OpdR K M0 env σ H o2 y)
    (h : Sat K H0 M0 A W (match rdO env o, rdO env o2 with
      | some p, some q => lift env (f p q)
      | _, _ => .bad) env σ H fun o e1 H1 => ∀ v, OpdR K M0 e1 σ H1 o v → Q v H1) : r x y H Q := by
  cases e1 : rdO env o with
  | none => rw [e1] at h; exact h.elim
  | some p =>
    cases e2 : rdO env o2 with
    | none => rw [e1, e2] at h; exact h.elim
    | some q =>
      rw [e1, e2] at h
      cases e3 : f p q with
      | none =>
        dsimp only at h
        rw [e3] at h
        exact h.elim
      | some z =>
        dsimp only at h
        rw [e3] at h
        exact hs (MM M0 env σ) x y H p q z Q (hx.rdT E e1) (hy.rdT E e2) (fun a ha => (E.fresh ha).1) e3 fun v H' st rv => h H' st.no Sub.refl (E.keep st) v rv
theorem op_read {K : PySem.W.Frag} {a b : IR} {i : IR} {r : R2} {f : D → D → Option D} (hs : OpS K r f)
    (he : ∀ env, ev G i env = (ev G a env).bind fun x e1 => (ev G b e1).bind fun y e2 => match rdO e2 x, rdO e2 y with
      | some p, some q => lift e2 (f p q)
      | _, _ => .bad) {σ : L2.St} {H : Hp} {Q : VK} (q : tI G W K i σ H Q) : tOp r (tI G W K a) (tI G W K b) σ H Q := by
  obtain ⟨H0, M0, A, env, E, q⟩ := q
  rw [he] at q
  refine ⟨H0, M0, A, env, E, (Sat.bind q).mono fun o e1 H1 _ s1 u1 E1 h1 x hx => ?_⟩
  refine ⟨H0, M0, A, e1, E1, (Sat.bind h1).mono fun o2 e2 H2 _ s2 u2 E2 h2 y hy => ?_⟩
  exact op_end hs E2 (hx.hold E1.aM s2 u2) hy h2
theorem e_op {e : Expr} {a b : IR} {i : IR} {r : R2} {f : D → D → Option D} {ta tb : TE} (h : PE X e (tOp r (tI G W X.K a) (tI G W X.K b))) (hs : OpS X.K r f)
    (he : ∀ env, ev G i env = (ev G a env).bind fun x e1 => (ev G b e1).bind fun y e2 => match rdO e2 x, rdO e2 y with
      | some p, some q => lift e2 (f p q)
      | _, _ => .bad) : PE X e (tI G W X.K i) := PE.by_ h fun σ H Q q => op_read hs he q
theorem e_bin {a b : Expr} {op : Operator} {op' : BOp} {a' b' : IR} {r : R2} {pos : Pos} (ho : OpR X (binaryOp op) r) (hs : OpS X.K r (binD op')) (ha : PE X a (tI G W X.K a')) (hb : PE X b (tI G W X.K b')) : PE X (.BinOp a op b pos) (tI G W X.K (.bin op' a' b')) :=
  e_op (ta := tI G W X.K a') (tb := tI G W X.K b') (pe_op ho ha hb) hs fun env => by first | (rw [ev]; done) | (rw [ev]; rfl)
theorem e_cmp {a b : Expr} {op : CmpOp} {op' : COp} {a' b' : IR} {r : R2} {pos : Pos} (ho : OpR X (compareOp op) r) (hs : CmS X.K r op') (ha : PE X a (tI G W X.K a')) (hb : PE X b (tI G W X.K b')) (hm : behindInMarks op b = false) : PE X (.Compare a [op] [b] pos) (tI G W X.K (.cmp op' a' b')) :=
  e_op (ta := tI G W X.K a') (tb := tI G W X.K b') (pe_cmpR ho ha hb hm) hs fun env => by first | (rw [ev]; done) | (rw [ev]; rfl)
theorem e_ix {a b : Expr} {a' b' : IR} {pos : Pos} (ha : PE X a (tI G W X.K a')) (hb : PE X b (tI G W X.K b')) (hp : PlainIx b) : PE X (.Subscript a b pos) (tI G W X.K (.ix a' b')) :=
  e_op (ta := tI G W X.K a') (tb := tI G W X.K b') (pe_ix (r := rOr (rIxL X.K) (rIxT X.K)) (ix_list.or ix_tup) ha hb hp) s_ix fun env => by first | (rw [ev]; done) | (rw [ev]; rfl)
/-- a value tested -/
theorem tru_end {K : PySem.W.Frag} {H0 H : Hp} {M0 A : AS} {env : Env} {σ : L2.St} {o : Opd} {x : V} {b : Bool} (E : EnvR K H0 M0 A env σ H) (hx : OpdR K M0 env σ H o x) (h : (rdO env o).bind truD = some b) : TruV K x H b := by
  cases e1 : rdO env o with
  | none => rw [e1] at h; cases h
  | some p =>
    rw [e1] at h
    exact truV_of (hx.rdT E e1).loose h
theorem e_and {a b : Expr} {rest : List Expr} {a' b' : IR} {pos : Pos} (ha : PE X a (tI G W X.K a')) (hb : PE X (.BoolOp .And (b :: rest) pos) (tI G W X.K b')) : PE X (.BoolOp .And (a :: b :: rest) pos) (tI G W X.K (.and_ a' b')) := PE.by_ (pe_andT ha hb) fun σ H Q q => by
  obtain ⟨H0, M0, A, env, E, q⟩ := q
  unfold ev at q
  refine ⟨H0, M0, A, env, E, (Sat.bind q).mono fun o e1 H1 _ s1 u1 E1 h1 x hx => ?_⟩
  cases e : (rdO e1 o).bind truD with
  | none => rw [e] at h1; exact h1.elim
  | some k =>
    rw [e] at h1
    refine ⟨k, tru_end E1 hx e, ?_⟩
    cases k with
    | true => exact ⟨H0, M0, A, e1, E1, h1⟩
    | false => exact h1 H1 Stp.refl Sub.refl E1 x hx
theorem e_or {a b : Expr} {rest : List Expr} {a' b' : IR} {pos : Pos} (ha : PE X a (tI G W X.K a')) (hb : PE X (.BoolOp .Or (b :: rest) pos) (tI G W X.K b')) : PE X (.BoolOp .Or (a :: b :: rest) pos) (tI G W X.K (.or_ a' b')) := PE.by_ (pe_orT ha hb) fun σ H Q q => by
  obtain ⟨H0, M0, A, env, E, q⟩ := q
  unfold ev at q
  refine ⟨H0, M0, A, env, E, (Sat.bind q).mono fun o e1 H1 _ s1 u1 E1 h1 x hx => ?_⟩
  cases e : (rdO e1 o).bind truD with
  | none => rw [e] at h1; exact h1.elim
  | some k =>
    rw [e] at h1
    refine ⟨k, tru_end E1 hx e, ?_⟩
    cases k with
    | false => exact ⟨H0, M0, A, e1, E1, h1⟩
    | true => exact h1 H1 Stp.refl Sub.refl E1 x hx
theorem e_not {a : Expr} {a' : IR} {pos : Pos} (ha : PE X a (tI G W X.K a')) : PE X (.UnaryOp .Not a pos) (tI G W X.K (.not_ a')) := PE.by_ (pe_notT ha) fun σ H Q q => by
  obtain ⟨H0, M0, A, env, E, q⟩ := q
  unfold ev at q
  refine ⟨H0, M0, A, env, E, (Sat.bind q).mono fun o e1 H1 _ s1 u1 E1 h1 x hx => ?_⟩
  cases e : (rdO e1 o).bind truD with
  | none => rw [e] at h1; exact h1.elim
  | some k =>
    rw [e] at h1
    exact ⟨k, tru_end E1 hx e, h1 H1 Stp.refl Sub.refl E1 _ (rep_bl (K := X.K) (H := H1) (M := MM M0 e1 σ) _)⟩
theorem e_neg {a : Expr} {a' : IR} {pos : Pos} (ha : PE X a (tI G W X.K a')) : PE X (.UnaryOp .USub a pos) (tI G W X.K (.neg a')) := PE.by_ (pe_un un_neg ha) fun σ H Q q => by
  obtain ⟨H0, M0, A, env, E, q⟩ := q
  unfold ev at q
  refine ⟨H0, M0, A, env, E, (Sat.bind q).mono fun o e1 H1 _ s1 u1 E1 h1 x hx => ?_⟩
  cases o with
  | pl i => exact h1.elim
  | val d =>
    cases d with
    | int i =>
      have hx' : Rep X.K H1 (MM M0 e1 σ) (.int i) x := hx
      unfold Rep at hx'
      exact ⟨i, hx', h1 H1 Stp.refl Sub.refl E1 _ (rep_int (K := X.K) (H := H1) (M := MM M0 e1 σ) _)⟩
    | _ => exact h1.elim
/-- tests -/
theorem t_truth {a : Expr} {a' : IR} (ha : PE X a (tI G W X.K a')) (he : ∀ whole, isTrue a X.env whole = (do let v ← whole; standAt a.pos; holding [v] (truthy v))) : PT X a (tIt G W X.K a') := PT.by_ (pt_truth ha he) fun σ H Q q => by
  obtain ⟨H0, M0, A, env, E, q⟩ := q
  unfold truR at q
  refine ⟨H0, M0, A, env, E, (Sat.bind q).mono fun o e1 H1 _ s1 u1 E1 h1 x hx => ?_⟩
  cases e : (rdO e1 o).bind truD with
  | none => rw [e] at h1; exact h1.elim
  | some k =>
    rw [e] at h1
    exact ⟨k, tru_end E1 hx e, h1 H1 Stp.refl Sub.refl E1⟩
end
end Mp
set_option maxHeartbeats 4000000
namespace Mp
open PySem L2
variable [TabsW]
theorem R.bind_assoc {α β γ : Type} (r : R α) (f : α → Env → R β) (g : β → Env → R γ) : (r.bind f).bind g = r.bind fun a e => (f a e).bind g := by cases r <;> rfl
theorem tru_not {G : Ctx} {a : IR} {env : Env} : truR (ev G (.not_ a) env) = (truR (ev G a env)).bind fun b e1 => .ok (!b) e1 := by
  rw [ev]
  unfold truR
  rw [R.bind_assoc, R.bind_assoc]
  congr 1
  funext x e1
  cases h : (rdO e1 x).bind truD <;> rfl
theorem tru_and {G : Ctx} {a b : IR} {env : Env} : truR (ev G (.and_ a b) env) = (truR (ev G a env)).bind fun c e1 => if c then truR (ev G b e1) else .ok false e1 := by
  rw [ev]
  unfold truR
  rw [R.bind_assoc, R.bind_assoc]
  congr 1
  funext x e1
  cases h : (rdO e1 x).bind truD with
  | none => rfl
  | some c =>
    cases c with
    | true => rfl
    | false =>
      show (match (rdO e1 x).bind truD with | some b => R.ok b e1 | none => R.bad) = _
      rw [h]; rfl
theorem tru_or {G : Ctx} {a b : IR} {env : Env} : truR (ev G (.or_ a b) env) = (truR (ev G a env)).bind fun c e1 => if c then .ok true e1 else truR (ev G b e1) := by
  rw [ev]
  unfold truR
  rw [R.bind_assoc, R.bind_assoc]
  congr 1
  funext x e1
  cases h : (rdO e1 x).bind truD with
  | none => rfl
  | some c =>
    cases c with
    | false => rfl
    | true =>
      show (match (rdO e1 x).bind truD with | some b => R.ok b e1 | none => R.bad) = _
      rw [h]; rfl
section
variable {X : Cx} {G : Ctx} {W : WX}
theorem t_not {a : Expr} {a' : IR} {pos : Pos} (ha : PT X a (tIt G W X.K a')) : PT X (.UnaryOp .Not a pos) (tIt G W X.K (.not_ a')) := PT.by_ (pt_not ha) fun σ H Q q => by
  obtain ⟨H0, M0, A, env, E, q⟩ := q
  rw [tru_not] at q
  exact ⟨H0, M0, A, env, E, (Sat.bind q).mono fun b e1 H1 _ s1 u1 E1 h1 => h1 H1 Stp.refl Sub.refl E1⟩
theorem w_and1 {a : Expr} {a' : IR} {pos : Pos} (ha : PT X a (tIt G W X.K a')) : PW X (.BoolOp .And [a] pos) (tIt G W X.K a') := pw_and1 ha
theorem w_or1 {a : Expr} {a' : IR} {pos : Pos} (ha : PT X a (tIt G W X.K a')) : PW X (.BoolOp .Or [a] pos) (tIt G W X.K a') := pw_or1 ha
theorem w_and {a b : Expr} {rest : List Expr} {a' b' : IR} {pos : Pos} (ha : PT X a (tIt G W X.K a')) (hb : PW X (.BoolOp .And (b :: rest) pos) (tIt G W X.K b')) : PW X (.BoolOp .And (a :: b :: rest) pos) (tIt G W X.K (.and_ a' b')) := PW.by_ (pw_and ha hb) fun σ H Q q => by
  obtain ⟨H0, M0, A, env, E, q⟩ := q
  rw [tru_and] at q
  refine ⟨H0, M0, A, env, E, (Sat.bind q).mono fun c e1 H1 _ s1 u1 E1 h1 => ?_⟩
  cases c with
  | true => exact ⟨H0, M0, A, e1, E1, h1⟩
  | false => exact h1 H1 Stp.refl Sub.refl E1
theorem w_or {a b : Expr} {rest : List Expr} {a' b' : IR} {pos : Pos} (ha : PT X a (tIt G W X.K a')) (hb : PW X (.BoolOp .Or (b :: rest) pos) (tIt G W X.K b')) : PW X (.BoolOp .Or (a :: b :: rest) pos) (tIt G W X.K (.or_ a' b')) := PW.by_ (pw_or ha hb) fun σ H Q q => by
  obtain ⟨H0, M0, A, env, E, q⟩ := q
  rw [tru_or] at q
  refine ⟨H0, M0, A, env, E, (Sat.bind q).mono fun c e1 H1 _ s1 u1 E1 h1 => ?_⟩
  cases c with
  | false => exact ⟨H0, M0, A, e1, E1, h1⟩
  | true => exact h1 H1 Stp.refl Sub.refl E1
/-- a value that is a truth, as a test -/
theorem tru_val {K : PySem.W.Frag} {i : IR} (hb : ∀ env o e1, ev G i env = .ok o e1 → ∃ k, o = .val (.bl k)) {σ : L2.St} {H : Hp} {Q : Bool → Hp → Prop} (q : tIt G W K i σ H Q) : tI G W K i σ H fun v H1 => ∃ k, v = .bl k ∧ Q k H1 := by
  obtain ⟨H0, M0, A, env, E, q⟩ := q
  refine ⟨H0, M0, A, env, E, ?_⟩
  cases e : ev G i env with
  | bad => rw [e] at q; exact q.elim
  | exc C f d e1 => rw [e] at q; exact q
  | ok o e1 =>
    obtain ⟨k, rfl⟩ := hb env o e1 e
    rw [e] at q
    intro H1 s1 u1 E1 v hv
    have hv' : Rep K H1 (MM M0 e1 σ) (.bl k) v := hv
    unfold Rep at hv'
    exact ⟨k, hv', q H1 s1 u1 E1⟩
theorem cmp_bool {op' : COp} {a' b' : IR} : ∀ env o e1, ev G (.cmp op' a' b') env = .ok o e1 → ∃ k, o = .val (.bl k) := fun env o e1 h => by
  rw [ev] at h
  cases h1 : ev G a' env with
  | bad => rw [h1] at h; cases h
  | exc C f d e => rw [h1] at h; cases h
  | ok x e2 =>
    rw [h1] at h
    have h : ((ev G b' e2).bind fun y e2 => match rdO e2 x, rdO e2 y with | some p, some q => lift e2 ((cmpD op' p q).map .bl) | _, _ => .bad) = .ok o e1 := h
    cases h2 : ev G b' e2 with
    | bad => rw [h2] at h; cases h
    | exc C f d e => rw [h2] at h; cases h
    | ok y e3 =>
      rw [h2] at h
      have h : (match rdO e3 x, rdO e3 y with | some p, some q => lift e3 ((cmpD op' p q).map .bl) | _, _ => .bad) = R.ok o e1 := h
      cases h3 : rdO e3 x with
      | none => rw [h3] at h; cases h
      | some p =>
        cases h4 : rdO e3 y with
        | none => rw [h3, h4] at h; cases h
        | some q =>
          rw [h3, h4] at h
          have h : lift e3 ((cmpD op' p q).map .bl) = R.ok o e1 := h
          cases h5 : cmpD op' p q with
          | none => rw [h5] at h; cases h
          | some k => rw [h5] at h; cases h; exact ⟨k, rfl⟩
theorem t_cmp {a b : Expr} {op : CmpOp} {op' : COp} {a' b' : IR} {r : R2} {pos : Pos} (ho : OpR X (compareOp op) r) (hs : CmS X.K r op') (ha : PE X a (tI G W X.K a')) (hb : PE X b (tI G W X.K b')) (hm : behindInMarks op b = false) : PT X (.Compare a [op] [b] pos) (tIt G W X.K (.cmp op' a' b')) :=
  PT.by_ (pt_cmpR ho ha hb hm) fun σ H Q q => op_read hs (fun env => by first | (rw [ev]; done) | (rw [ev]; rfl)) (tru_val cmp_bool q)
theorem e_ite {t a b : Expr} {t' a' b' : IR} {pos : Pos} (ht : PT X t (tIt G W X.K t')) (ha : PE X a (tI G W X.K a')) (hb : PE X b (tI G W X.K b')) : PE X (.IfExp t a b pos) (tI G W X.K (.ite t' a' b')) := PE.by_ (pe_ifExp ht ha hb) fun σ H Q q => by
  obtain ⟨H0, M0, A, env, E, q⟩ := q
  rw [ev] at q
  refine ⟨H0, M0, A, env, E, (Sat.bind q).mono fun c e1 H1 _ s1 u1 E1 h1 => ?_⟩
  cases c with
  | true => exact ⟨H0, M0, A, e1, E1, h1⟩
  | false => exact ⟨H0, M0, A, e1, E1, h1⟩
def starB : Expr → Bool
  | .Starred _ _ => true
  | _ => false
theorem star_cons {e : Expr} {es : List Expr} {env : PySem.Env} (h : starB e = false) : starEach (e :: es) env = (false, eval e env) :: starEach es env := by
  cases e <;> first | rfl | cases h
theorem star_none {pos : Pos} {env : PySem.Env} : ∀ {es : List Expr}, es.any starB = false → (backTo pos (starEach es env)).any (·.1) = false
  | [], _ => rfl
  | e :: es, h => by
    rw [List.any_cons, Bool.or_eq_false_iff] at h
    rw [star_cons h.1]
    show (false || (backTo pos (starEach es env)).any (·.1)) = false
    rw [star_none h.2] <;> rfl
theorem as_nil : PA X [] (tIs G W X.K []) := PA.by_ pa_nil fun σ H Q q => by
  obtain ⟨H0, M0, A, env, E, q⟩ := q
  rw [evs] at q
  exact q H Stp.refl Sub.refl E [] RepL.nil
theorem as_cons {e : Expr} {es : List Expr} {i : IR} {is : List IR} (ha : PE X e (tI G W X.K i)) (hr : PA X es (tIs G W X.K is)) (hs : starB e = false) : PA X (e :: es) (tIs G W X.K (i :: is)) := PA.by_ (pa_cons ha hr (star_cons hs)) fun σ H Q q => by
  obtain ⟨H0, M0, A, env, E, q⟩ := q
  rw [evs] at q
  unfold R.take at q
  rw [R.bind_assoc] at q
  refine ⟨H0, M0, A, env, E, (Sat.bind q).mono fun o e1 H1 _ s1 u1 E1 h1 x hx => ?_⟩
  cases e : takeO e1 o with
  | none => rw [e] at h1; exact h1.elim
  | some p =>
    obtain ⟨d, e2⟩ := p
    rw [e] at h1
    obtain ⟨E2, rd, u2⟩ := E1.take hx e
    have h2 : Sat X.K H0 M0 A W ((evs G is e2).bind fun ds e3 => .ok (d :: ds) e3) e1 σ H1 (fun ds e1 H1 => ∀ vs, RepL X.K H1 (MM M0 e1 σ) ds vs → Q vs H1) := h1
    have h3 : Sat X.K H0 M0 A W ((evs G is e2).bind fun ds e3 => .ok (d :: ds) e3) e2 σ H1 (fun ds e1 H1 => ∀ vs, RepL X.K H1 (MM M0 e1 σ) ds vs → Q vs H1) := h2.sub u2
    refine ⟨H0, M0, A, e2, E2, (Sat.bind h3).mono fun ds e3 H3 _ s3 u3 E3 h4 vs hv => ?_⟩
    exact h4 H3 Stp.refl Sub.refl E3 (x :: vs) (RepL.cons (hold rd E2.aM s3 u3) hv)
end
end Mp
set_option maxHeartbeats 4000000
namespace Mp
open PySem L2
variable [TabsW]
section
variable {X : Cx} {G : Ctx} {W : WX}
theorem ar_nil : PA X [] (tIr G W X.K []) := PA.by_ pa_nil fun σ H Q q => by
  obtain ⟨H0, M0, A, env, E, q⟩ := q
  rw [evr] at q
  exact q H Stp.refl Sub.refl E [] .nil
theorem ar_cons {e : Expr} {es : List Expr} {i : IR} {is : List IR} (ha : PE X e (tI G W X.K i)) (hr : PA X es (tIr G W X.K is)) (hs : starB e = false) : PA X (e :: es) (tIr G W X.K (i :: is)) := PA.by_ (pa_cons ha hr (star_cons hs)) fun σ H Q q => by
  obtain ⟨H0, M0, A, env, E, q⟩ := q
  rw [evr] at q
  refine ⟨H0, M0, A, env, E, (Sat.bind q).mono fun o e1 H1 _ s1 u1 E1 h1 x hx => ?_⟩
  refine ⟨H0, M0, A, e1, E1, (Sat.bind h1).mono fun os e2 H2 _ s2 u2 E2 h2 vs hv => ?_⟩
  exact h2 H2 Stp.refl Sub.refl E2 (x :: vs) (.cons (hx.hold E1.aM s2 u2) hv)
theorem aa_nil {io : Option Nat} {n : Nat} : PA X [] (tIa G W X.K io n []) := PA.by_ pa_nil fun σ H Q q => by
  obtain ⟨H0, M0, A, env, E, q⟩ := q
  rw [eva] at q
  exact q H Stp.refl Sub.refl E [] .nil
theorem aa_cons {e : Expr} {es : List Expr} {i : IR} {is : List IR} {io : Option Nat} {n : Nat} (ha : PE X e (tI G W X.K i)) (hr : PA X es (tIa G W X.K io (n + 1) is)) (hs : starB e = false) : PA X (e :: es) (tIa G W X.K io n (i :: is)) := PA.by_ (pa_cons ha hr (star_cons hs)) fun σ H Q q => by
  obtain ⟨H0, M0, A, env, E, q⟩ := q
  rw [eva] at q
  by_cases hio : io = some n
  · rw [if_pos hio] at q
    refine ⟨H0, M0, A, env, E, (Sat.bind q).mono fun o e1 H1 _ s1 u1 E1 h1 x hx => ?_⟩
    cases o with
    | val d => exact h1.elim
    | pl j =>
      refine ⟨H0, M0, A, e1, E1, (Sat.bind h1).mono fun p e2 H2 _ s2 u2 E2 h2 vs hv => ?_⟩
      exact h2 H2 Stp.refl Sub.refl E2 (x :: vs) (.cons (hx.hold E1.aM s2 u2) hv)
  · rw [if_neg hio] at q
    unfold R.take at q
    rw [R.bind_assoc] at q
    refine ⟨H0, M0, A, env, E, (Sat.bind q).mono fun o e1 H1 _ s1 u1 E1 h1 x hx => ?_⟩
    cases e : takeO e1 o with
    | none => rw [e] at h1; exact h1.elim
    | some p =>
      obtain ⟨d, e2⟩ := p
      rw [e] at h1
      obtain ⟨E2, rd, u2⟩ := E1.take hx e
      have h2 : Sat X.K H0 M0 A W ((eva G io (n + 1) is e2).bind fun p e3 => .ok (.val d :: p.1, p.2) e3) e1 σ H1 (fun p e1 H1 => ∀ vs, Paired (OpdR X.K M0 e1 σ H1) p.1 vs → Q vs H1) := h1
      refine ⟨H0, M0, A, e2, E2, (Sat.bind (h2.sub u2)).mono fun p e3 H3 _ s3 u3 E3 h4 vs hv => ?_⟩
      exact h4 H3 Stp.refl Sub.refl E3 (x :: vs) (.cons (show OpdR X.K M0 e3 σ H3 (.val d) x from hold rd E2.aM s3 u3) hv)
theorem po_none' : PO X none (tIo G W X.K none) := PO.by_ po_none fun σ H Q q => by
  obtain ⟨H0, M0, A, env, E, q⟩ := q
  rw [evo] at q
  exact q H Stp.refl Sub.refl E
theorem po_some' {e : Expr} {i : IR} (h : PE X e (tI G W X.K i)) : PO X (some e) (tIo G W X.K (some i)) := PO.by_ (po_some h) fun σ H Q q => by
  obtain ⟨H0, M0, A, env, E, q⟩ := q
  rw [evo] at q
  unfold R.rd at q
  rw [R.bind_assoc] at q
  refine ⟨H0, M0, A, env, E, (Sat.bind q).mono fun o e1 H1 _ s1 u1 E1 h1 x hx => ?_⟩
  cases e : rdO e1 o with
  | none => rw [e] at h1; exact h1.elim
  | some d =>
    rw [e] at h1
    cases d with
    | int k =>
      have := (hx.rdT E1 e).int
      exact ⟨k, this, h1 H1 Stp.refl Sub.refl E1⟩
    | _ => exact h1.elim
theorem e_tup {es : List Expr} {is : List IR} {k : Nat} {pos : Pos} (h : PA X es (tIs G W X.K is)) : PE X (.Tuple es k pos) (tI G W X.K (.tup is)) := PE.by_ (pe_tup h) fun σ H Q q => by
  obtain ⟨H0, M0, A, env, E, q⟩ := q
  rw [ev] at q
  refine ⟨H0, M0, A, env, E, (Sat.bind q).mono fun ds e1 H1 _ s1 u1 E1 h1 xs hx => ?_⟩
  have hs : sizeLine = 16777216 := sizeLine_eq
  by_cases hl : ds.length ≤ BIG
  · rw [if_pos hl] at h1
    refine ⟨by rw [← hx.length]; unfold BIG at hl; omega, fun p hp => ?_⟩
    exact h1 _ (Stp.new hp) Sub.refl (E1.new hp) _ (rep_newT hp (E1.fresh hp).1 hx)
  · rw [if_neg hl] at h1; exact h1.elim
theorem e_lst {es : List Expr} {is : List IR} {pos : Pos} (h : PA X es (tIs G W X.K is)) : PE X (.List es pos) (tI G W X.K (.lst is)) := PE.by_ (pe_lst h) fun σ H Q q => by
  obtain ⟨H0, M0, A, env, E, q⟩ := q
  rw [ev] at q
  refine ⟨H0, M0, A, env, E, (Sat.bind q).mono fun ds e1 H1 _ s1 u1 E1 h1 xs hx => ?_⟩
  have hs : sizeLine = 16777216 := sizeLine_eq
  by_cases hl : ds.length ≤ BIG
  · rw [if_pos hl] at h1
    refine ⟨by rw [← hx.length]; unfold BIG at hl; omega, fun p hp => ?_⟩
    exact h1 _ (Stp.new hp) Sub.refl (E1.new hp) _ (rep_new hp (E1.fresh hp).1 hx)
  · rw [if_neg hl] at h1; exact h1.elim
theorem RepL.cut {K : PySem.W.Frag} {H : Hp} {M : AS} {ds : List D} {xs : List V} (r : RepL K H M ds xs) (lo hi : Option Int) : RepL K H M (cutD ds lo hi) (cutV xs lo hi) := by
  unfold cutD cutV
  rw [r.length]
  exact (r.drop _).take _
theorem e_sl {a : Expr} {lo hi : Option Expr} {a' : IR} {lo' hi' : Option IR} {p2 pos : Pos} (ha : PE X a (tI G W X.K a')) (hl : PO X lo (tIo G W X.K lo')) (hh : PO X hi (tIo G W X.K hi')) : PE X (.Subscript a (.Slice lo hi none p2) pos) (tI G W X.K (.sl a' lo' hi')) := PE.by_ (pe_slice (SlR.or sl_list sl_tupA) ha hl hh) fun σ H Q q => by
  obtain ⟨H0, M0, A, env, E, q⟩ := q
  rw [ev] at q
  refine ⟨H0, M0, A, env, E, (Sat.bind q).mono fun o e1 H1 _ s1 u1 E1 h1 x hx => ?_⟩
  refine ⟨H0, M0, A, e1, E1, (Sat.bind h1).mono fun i e2 H2 _ s2 u2 E2 h2 => ?_⟩
  refine ⟨H0, M0, A, e2, E2, (Sat.bind h2).mono fun j e3 H3 _ s3 u3 E3 h3 => ?_⟩
  have hx3 := (hx.hold E1.aM s2 u2).hold E2.aM s3 u3
  cases e : rdO e3 o with
  | none => rw [e] at h3; exact h3.elim
  | some p =>
    rw [e] at h3
    cases p with
    | lst ds =>
      obtain ⟨b, xs, rfl, hr, rr⟩ := hx3.rdT E3 e
      exact .inl ⟨b, xs, rfl, hr, fun p hp => h3 _ (Stp.new hp) Sub.refl (E3.new hp) _ (rep_new hp (E3.fresh hp).1 (rr.cut i j))⟩
    | tup ds =>
      obtain ⟨b, xs, rfl, hr, rr, nM⟩ := hx3.rdT E3 e
      refine .inr ⟨b, xs, rfl, Rd.t hr, fun hw => ?_, fun _ p hp => h3 _ (Stp.new hp) Sub.refl (E3.new hp) _ (rep_newT hp (E3.fresh hp).1 (rr.cut i j))⟩
      have hl : xs.length = ds.length := rr.length.symm
      have hd : cutD ds i j = ds := by
        unfold cutD
        rw [← hl, hw.1, hw.2, List.drop_zero, Nat.sub_zero, hl, List.take_length]
      have h4 : ∀ v : V, OpdR X.K M0 e3 σ H3 (.val (.tup (cutD ds i j))) v → Q v H3 := h3 _ Stp.refl Sub.refl E3
      rw [hd] at h4
      refine h4 _ ?_
      unfold OpdR Rep
      exact ⟨b, xs, rfl, nM, hr, rr⟩
    | _ => exact h3.elim
theorem ops_rd {K : PySem.W.Frag} {H0 H : Hp} {M0 A : AS} {env : Env} {σ : L2.St} (E : EnvR K H0 M0 A env σ H) : ∀ {os : List Opd} {vs : List V} {ds : List D}, Paired (OpdR K M0 env σ H) os vs → os.mapM (rdO env) = some ds → Paired (RepT K H (MM M0 env σ)) ds vs
  | [], _, ds, .nil, e => by
    rw [List.mapM_nil] at e
    cases e; exact .nil
  | o :: os, _, ds, .cons r t, e => by
    rw [List.mapM_cons] at e
    cases e1 : rdO env o with
    | none => rw [e1] at e; cases e
    | some d =>
      cases e2 : os.mapM (rdO env) with
      | none => rw [e1, e2] at e; cases e
      | some ds' =>
        rw [e1, e2] at e
        cases e
        exact .cons (r.rdT E e1) (ops_rd E t e2)
theorem blt_read {K : PySem.W.Frag} {b : Blt} {is : List IR} {r : List V → Hp → VK → Prop} (hs : CaS K r (bltD b)) {σ : L2.St} {H : Hp} {Q : VK} (q : tI G W K (.blt b is) σ H Q) : tCB r (tIr G W K is) σ H Q := by
  obtain ⟨H0, M0, A, env, E, q⟩ := q
  rw [ev] at q
  refine ⟨H0, M0, A, env, E, (Sat.bind q).mono fun os e1 H1 _ s1 u1 E1 h1 xs hx => ?_⟩
  cases e : os.mapM (rdO e1) with
  | none => rw [e] at h1; exact h1.elim
  | some ds =>
    rw [e] at h1
    cases e2 : bltD b ds with
    | none => dsimp only at h1; rw [e2] at h1; exact h1.elim
    | some z =>
      dsimp only at h1
      rw [e2] at h1
      exact hs (MM M0 e1 σ) xs H1 ds z Q (ops_rd E1 hx e) (fun a ha => (E1.fresh ha).1) e2 fun v H' st rv => h1 H' st.no Sub.refl (E1.keep st) v rv
theorem e_bltF {e : Expr} {es : List Expr} {is : List IR} {b : Blt} {r : List V → Hp → VK → Prop} {x : Str} {id : String} {p pos : Pos} (hc : CallR X (.builtin id) r) (hs : CaS X.K r (bltD b)) (hg : Gl X x) (hm : X.mg x = none) (hv : bootBuiltins x = some (.builtin id))
    (ha : PA X (e :: es) (tIr G W X.K is)) (h1 : (e :: es).any starB = false) (hn : x ≠ "__name__") (hd : (x == ("__debug__" : Str)) = false) : PE X (.Call (.Name x p) (e :: es) [] pos) (tI G W X.K (.blt b is)) := by
  rw [List.any_cons, Bool.or_eq_false_iff] at h1
  exact PE.by_ (pe_callB hc hg hm hv ha hn hd (star_cons h1.1) (star_none h1.2)) fun σ H Q q => blt_read hs q
theorem e_bltT {e : Expr} {es : List Expr} {is : List IR} {b : Blt} {r : List V → Hp → VK → Prop} {x : Str} {id : String} {p pos : Pos} (hc : CallR X (.type id) r) (hs : CaS X.K r (bltD b)) (hg : Gl X x) (hm : X.mg x = none) (hv : bootBuiltins x = some (.type id))
    (ha : PA X (e :: es) (tIr G W X.K is)) (h1 : (e :: es).any starB = false) (hn : x ≠ "__name__") (hd : (x == ("__debug__" : Str)) = false) : PE X (.Call (.Name x p) (e :: es) [] pos) (tI G W X.K (.blt b is)) := by
  rw [List.any_cons, Bool.or_eq_false_iff] at h1
  exact PE.by_ (pe_callTy hc hg hm hv ha hn hd (star_cons h1.1) (star_none h1.2)) fun σ H Q q => blt_read hs q
end
end Mp
set_option maxHeartbeats 4000000
namespace Mp
open PySem L2
variable [TabsW]
/-- the slots handed over for change: what eva's second part says of the first -/
def IoOps (io : Option Nat) (n : Nat) (os : List Opd) (is : List Nat) : Prop :=
  (∀ (m i : Nat), os[m]? = some (.pl i) → io = some (n + m)) ∧ (∀ (m : Nat), io = some (n + m) → m < os.length → ∃ i, os[m]? = some (.pl i) ∧ is = [i]) ∧ (∀ i ∈ is, ∃ m, io = some (n + m) ∧ m < os.length)
theorem eva_ops (G : Ctx) (io : Option Nat) : ∀ (es : List IR) (n : Nat) (env : Env) (p : List Opd × List Nat) (e1 : Env), eva G io n es env = .ok p e1 → IoOps io n p.1 p.2 ∧ ((∀ m, io = some m → m < n) → p.2 = [])
  | [], n, env, p, e1, h => by
    rw [eva] at h
    cases h
    exact ⟨⟨fun m i e => by simp at e, fun m _ hl => by simp at hl, fun i hi => by simp at hi⟩, fun _ => rfl⟩
  | e :: es, n, env, p, e1, h => by
    rw [eva] at h
    by_cases hio : io = some n
    · rw [if_pos hio] at h
      cases h1 : ev G e env with
      | bad => rw [h1] at h; cases h
      | exc C f d e2 => rw [h1] at h; cases h
      | ok o e2 =>
        rw [h1] at h
        cases o with
        | val d => cases h
        | pl i =>
          have h : ((eva G io (n + 1) es e2).bind fun p e2 => R.ok (Opd.pl i :: p.1, i :: p.2) e2) = .ok p e1 := h
          cases h2 : eva G io (n + 1) es e2 with
          | bad => rw [h2] at h; cases h
          | exc C f d e3 => rw [h2] at h; cases h
          | ok q e3 =>
            rw [h2] at h
            cases h
            obtain ⟨⟨a, b, c⟩, d⟩ := eva_ops G io es (n + 1) e2 q _ h2
            have hq : q.2 = [] := d fun m hm => by rw [hio] at hm; cases hm; omega
            refine ⟨⟨fun m j e => ?_, fun m hm hl => ?_, fun j hj => ⟨0, hio, by simp⟩⟩, fun z => ?_⟩
            · cases m with
              | zero => exact hio
              | succ m =>
                have := a m j (by simpa using e)
                rw [this]; congr 1; omega
            · have : m = 0 := by rw [hio] at hm; injection hm with hm; omega
              subst this
              exact ⟨i, rfl, by rw [hq]⟩
            · have := z n hio; omega
    · rw [if_neg hio] at h
      cases h1 : (ev G e env).take with
      | bad => rw [h1] at h; cases h
      | exc C f d e2 => rw [h1] at h; cases h
      | ok d e2 =>
        rw [h1] at h
        have h : ((eva G io (n + 1) es e2).bind fun p e2 => R.ok (Opd.val d :: p.1, p.2) e2) = .ok p e1 := h
        cases h2 : eva G io (n + 1) es e2 with
        | bad => rw [h2] at h; cases h
        | exc C f d e3 => rw [h2] at h; cases h
        | ok q e3 =>
          rw [h2] at h
          cases h
          obtain ⟨⟨a, b, c⟩, d'⟩ := eva_ops G io es (n + 1) e2 q _ h2
          refine ⟨⟨fun m j e => ?_, fun m hm hl => ?_, fun j hj => let ⟨m, a1, a2⟩ := c j hj; ⟨m + 1, by rw [a1]; congr 1; omega, by simpa using a2⟩⟩, fun z => d' fun m hm => by have := z m hm; omega⟩
          · cases m with
            | zero => simp at e
            | succ m =>
              have := a m j (by simpa using e)
              rw [this]; congr 1; omega
          · cases m with
            | zero => exact absurd hm hio
            | succ m =>
              have hl' : m < q.1.length := by simpa using hl
              obtain ⟨i, e1, e2⟩ := b m (by rw [hm]; congr 1; omega) hl'
              exact ⟨i, by simpa using e1, e2⟩
theorem Paired.get {α β : Type} {F : α → β → Prop} : ∀ {xs : List α} {ys : List β} {i : Nat} {x : α} {y : β}, Paired F xs ys → xs[i]? = some x → ys[i]? = some y → F x y
  | _, _, _, _, _, .nil, h, _ => by simp at h
  | _, _, 0, _, _, .cons r _, h1, h2 => by simp at h1 h2; subst h1; subst h2; exact r
  | _, _, i + 1, _, _, .cons _ t, h1, h2 => Paired.get (i := i) t (by simpa using h1) (by simpa using h2)
theorem mapM_get {env : Env} : ∀ {os : List Opd} {ds : List D} {i : Nat} {d : D}, os.mapM (rdO env) = some ds → ds[i]? = some d → ∃ o, os[i]? = some o ∧ rdO env o = some d
  | [], ds, i, d, h, e => by
    rw [List.mapM_nil] at h; cases h; simp at e
  | o :: os, ds, i, d, h, e => by
    rw [List.mapM_cons] at h
    cases e1 : rdO env o with
    | none => rw [e1] at h; cases h
    | some d' =>
      cases e2 : os.mapM (rdO env) with
      | none => rw [e1, e2] at h; cases h
      | some ds' =>
        rw [e1, e2] at h
        cases h
        cases i with
        | zero => simp at e; subst e; exact ⟨o, rfl, e1⟩
        | succ i =>
          obtain ⟨o', a, b⟩ := mapM_get (i := i) e2 (by simpa using e)
          exact ⟨o', by simpa using a, b⟩
theorem mapM_len {env : Env} : ∀ {os : List Opd} {ds : List D}, os.mapM (rdO env) = some ds → ds.length = os.length
  | [], ds, h => by rw [List.mapM_nil] at h; cases h; rfl
  | o :: os, ds, h => by
    rw [List.mapM_cons] at h
    cases e1 : rdO env o with
    | none => rw [e1] at h; cases h
    | some d' =>
      cases e2 : os.mapM (rdO env) with
      | none => rw [e1, e2] at h; cases h
      | some ds' =>
        rw [e1, e2] at h
        cases h
        simp [mapM_len e2]
section
variable {X : Cx} {G : Ctx} {W : WX}
/-- a call's end: what the def promises is what frR says -/
theorem call_end {K : PySem.W.Frag} {H0 H : Hp} {M0 A : AS} {env : Env} {σ : L2.St} {Q : VK} {n : Nat} {io : Option Nat} {F : List D → FR} {os : List Opd} {is : List Nat} {ds : List D} {vs : List V} (E : EnvR K H0 M0 A env σ H) (hv : Paired (OpdR K M0 env σ H) os vs) (hn : vs.length = n)
    (hi : IoOps io 0 os is) (hm : os.mapM (rdO env) = some ds) (h : Sat K H0 M0 A W (frR env io is (F ds)) env σ H fun o e1 H1 => ∀ v, OpdR K M0 e1 σ H1 o v → Q v H1) : spF K n io F vs H Q (WE W σ) := by
  have lv : os.length = vs.length := Paired.length hv
  -- no one is handed over
  have none_case : io = none → spF K n io F vs H Q (WE W σ) := fun z => by
    subst z
    refine ⟨hn, MM M0 env σ, ds, E.mok, ⟨by rw [mapM_len hm, lv], fun i d v e1 e2 => ⟨fun _ => ?_, fun z => nomatch z⟩⟩, ?_⟩
    · obtain ⟨o, o1, o2⟩ := mapM_get hm e1
      have r := Paired.get hv o1 e2
      cases o with
      | pl j => exact nomatch hi.1 i j o1
      | val d' => cases o2; exact r
    · cases e : F ds with
      | bad => rw [e] at h; exact h.elim
      | ok d out =>
        rw [e] at h
        intro v H' st _ rv
        have st' : Stp NoA H H' := st.weak fun a ⟨i, z, _⟩ => nomatch z
        exact h H' st'.no Sub.refl (E.keep st') v rv
      | exc C f d out =>
        rw [e] at h
        intro dd v H' st _ hd rv
        have st' : Stp NoA H H' := st.weak fun a ⟨i, z, _⟩ => nomatch z
        exact h dd v H' st'.no Sub.refl (E.keep st') hd rv
  cases hio : io with
  | none => rw [hio] at none_case; exact none_case rfl
  | some m =>
    subst hio
    -- the slot that is handed over
    have slot : ∃ i, is = [i] := by
      cases e : F ds with
      | bad => rw [e] at h; exact h.elim
      | ok d out =>
        rw [e] at h
        match is, h with
        | [i], _ => exact ⟨i, rfl⟩
        | [], h => exact h.elim
        | _ :: _ :: _, h => exact h.elim
      | exc C f d out =>
        rw [e] at h
        match is, h with
        | [i], _ => exact ⟨i, rfl⟩
        | [], h => exact h.elim
        | _ :: _ :: _, h => exact h.elim
    obtain ⟨i, rfl⟩ := slot
    by_cases hml : m < os.length
    · obtain ⟨i', om, ei⟩ := hi.2.1 m (by rw [Nat.zero_add]) hml
      cases ei
      obtain ⟨v, hvm⟩ : ∃ v, vs[m]? = some v := ⟨vs[m]'(by omega), List.getElem?_eq_getElem (by omega)⟩
      obtain ⟨sv, c, hc⟩ := Paired.get hv om hvm
      have hcell : cellAt env i = some c := by unfold cellAt; rw [hc]; rfl
      -- its cell is ours or handed to us
      have key : ∃ (a : Addr) (xs : List V) (es : List D), v = .ref a ∧ MM M0 env σ a ∧ H a = some (.lst xs) ∧ RepL K H (MM M0 env σ) es xs ∧ content c = .lst es ∧
          (∀ (out : List D) (ys : List V) (H' : Hp), Stp (fun x => x = a) H H' → H' a = some (.lst ys) → RepL K H' (MM M0 env σ) out ys → ∃ env', EnvR K H0 M0 A env' σ H' ∧ Sub σ env env' ∧ MM M0 env' σ = MM M0 env σ ∧ WW A env σ a ∧
            (∀ d, frR env (some m) [i] (.ok d out) = .ok (.val d) env') ∧ ∀ C f d, frR env (some m) [i] (.exc C f d out) = .exc C f d env') := by
        cases c with
        | dat d =>
          exfalso
          cases e : F ds with
          | bad => rw [e] at h; exact h.elim
          | ok d' out => rw [e] at h; unfold frR at h; dsimp only at h; rw [hcell] at h; exact h.elim
          | exc C f d' out => rw [e] at h; unfold frR at h; dsimp only at h; rw [hcell] at h; exact h.elim
        | slf C ns es => exact absurd hc (fun q => E.slf i C ns es q)
        | own es =>
          obtain ⟨a, xs, s, q, l, nm, h0⟩ := E.own i es hc
          rw [sv] at s; cases s
          refine ⟨a, xs, es, rfl, .inr ⟨i, es, hc, sv⟩, q, l, rfl, fun out ys H' st h' rr => ?_⟩
          obtain ⟨E', u, eM⟩ := E.setOwn hc sv st h' rr
          refine ⟨_, E', u, eM, .inr ⟨i, es, hc, sv⟩, fun d => ?_, fun C f d => ?_⟩
          · unfold frR; dsimp only; rw [hcell]
          · unfold frR; dsimp only; rw [hcell]
        | io es =>
          obtain ⟨a, xs, s, Aa, q, l⟩ := E.io i es hc
          rw [sv] at s; cases s
          refine ⟨a, xs, es, rfl, .inl (E.aM a Aa), q, l, rfl, fun out ys H' st h' rr => ?_⟩
          obtain ⟨E', u, eM⟩ := E.setIo hc sv st h' rr
          refine ⟨_, E', u, eM, .inl Aa, fun d => ?_, fun C f d => ?_⟩
          · unfold frR; dsimp only; rw [hcell]
          · unfold frR; dsimp only; rw [hcell]
      obtain ⟨a, xs, es, rfl, Ma, ha, l, hcont, go⟩ := key
      refine ⟨hn, MM M0 env σ, ds, E.mok, ⟨by rw [mapM_len hm, lv], fun j d w e1 e2 => ?_⟩, ?_⟩
      · obtain ⟨o, o1, o2⟩ := mapM_get hm e1
        have r := Paired.get hv o1 e2
        refine ⟨fun z => ?_, fun z => ?_⟩
        · cases o with
          | pl k =>
            have := hi.1 j k o1
            rw [Nat.zero_add] at this
            exact absurd this z
          | val d' => cases o2; exact r
        · cases z
          rw [om] at o1; cases o1
          rw [hvm] at e2; cases e2
          have : (cellAt env i).map content = some d := o2
          rw [hcell] at this
          rw [Option.map_some, hcont] at this
          cases this
          exact ⟨a, xs, es, rfl, rfl, Ma, ha, l⟩
      · have ioA : ∀ x, IoA (some m) vs x → x = a := fun x ⟨j, z, q⟩ => by
          cases z; rw [hvm] at q; cases q; rfl
        cases e : F ds with
        | bad => rw [e] at h; exact h.elim
        | ok d out =>
          rw [e] at h
          intro v H' st ot rv
          obtain ⟨a', ys, q1, q2, q3⟩ := ot m rfl
          rw [hvm] at q1; cases q1
          obtain ⟨env', E', u, eM, wa, f1, _⟩ := go out ys H' (st.weak ioA) q2 q3
          rw [f1] at h
          exact h H' (st.weak fun x z => ioA x z ▸ wa) u E' v (by show Rep K H' (MM M0 env' σ) d v; rw [eM]; exact rv)
        | exc C f d out =>
          rw [e] at h
          intro dd v H' st ot hd rv
          obtain ⟨a', ys, q1, q2, q3⟩ := ot m rfl
          rw [hvm] at q1; cases q1
          obtain ⟨env', E', u, eM, wa, _, f2⟩ := go out ys H' (st.weak ioA) q2 q3
          rw [f2] at h
          exact h dd v H' (st.weak fun x z => ioA x z ▸ wa) u E' hd (by rw [eM]; exact rv)
    · exfalso
      obtain ⟨m', a1, a2⟩ := hi.2.2 i (by simp)
      rw [Nat.zero_add] at a1
      cases a1
      exact hml a2
end
end Mp
set_option maxHeartbeats 4000000
namespace Mp
open PySem L2 PyProof.Rows
/-- whether it is known that no repr is under way -/
class GdW where
  gd : Prop
variable [TabsW] [GdW]
/-- room for so many calls, where no repr is under way -/
structure Room (k : Nat) (A : Around) : Prop where
  r : L2.Room k A
  g : GdW.gd → A.guards = some []
theorem Room.mono {j k : Nat} {A : Around} (h : Room k A) (l : j ≤ k) : Room j A := ⟨h.r.mono l, h.g⟩
theorem Room.make {k : Nat} {A : Around} (h : Room (k + 1) A) (C : Addr) (us : List Value) (kw : List (Str × Value)) : Room k (A.under (.builtin "type.__call__" ⟨.ref C :: us, kw⟩)) := by
  refine ⟨h.r.make C us kw, fun z => ?_⟩
  have e : Code.guards (.builtin "type.__call__" ⟨.ref C :: us, kw⟩) = [] := rfl
  show pushGuards (Code.guards (.builtin "type.__call__" ⟨.ref C :: us, kw⟩)) A.guards = some []
  rw [e, h.g z]
  rfl
/-- what a def is worth where no repr is under way -/
structure FnOk (P : Program) (w : World) (K : PySem.W.Frag) (mg : Str → Option Value) (base : Heap) (CX : CXT) (k : Nat) (f : Addr) (fd : FuncData) (ps : List Str) (sp : Sp) : Prop where
  len : ∀ vs H Q E, sp vs H Q E → vs.length = ps.length
  go : ∀ (A : Around) (out : List PySem.Env) (s : Shared) (H : Hp) (args : Args) (us : List Value) (vs : List V) (Q : VK) (E : XK), Room k A → Env0 P w K mg base A out s H → BindsTo s fd args (ps.zip us) → Vals vs us → sp vs H Q E → codeAny (model P w) A (.call (.ref f) args) (CR CX out P w H s Q E) s
/-- THE RULE for a def by its text -/
theorem fn_text {CX : CXT} {P : Program} {w : World} {K : PySem.W.Frag} {mg : Str → Option Value} {base : Heap} {k : Nat} {f : Addr} {nm qn : Str} {par : Arguments} {bd : List Stmt} {sc : Scope} {dV kV doc pm cdv ct oc : Value} {an od : Option Addr} {osl : Array (Option Value)} {N ps : List Str} {sp : Sp}
    (lk : K.lookup f = some ⟨oc, od, .func (PySem.W.fnOf nm qn par bd sc dV kV doc pm an cdv ct), osl⟩) (hcd : PySem.W.codeIn K cdv qn = true) (S : FnScope N ps sc) (len : ∀ vs H Q E, sp vs H Q E → vs.length = ps.length)
    (bod : ∀ (A : Around) (out : List PySem.Env) (s : Shared) (H : Hp) (vs : List V) (Q : VK) (E : XK), Room k (A.deeper (envOfC qn sc s.heap.objs.size f cdv)) → sp vs H Q E → ∃ t, PSs (cxOf CX P w K mg base N qn sc f cdv A out s H E) bd t ∧ t { nx := fun _ H' => Q .non H', rt := Q } (L2.start N vs) H) :
    FnOk P w K mg base CX (k + 1) f (PySem.W.fnOf nm qn par bd sc dV kV doc pm an cdv ct) ps sp :=
  ⟨len, fun A out s H args us vs Q E hr e0 hb r h => LamX.run_ofS lk hcd S hr.r e0 hb r (len _ _ _ _ h) fun hr' => bod A out s H vs Q E ⟨hr', hr.g⟩ h⟩
theorem fun_okX {P : Program} {w : World} {K : PySem.W.Frag} {mg : Str → Option Value} {base : Heap} {x qn : Str} {st : Stmt} {f : Addr} {fd : FuncData} {N ps : List Str} {k : Nat} {sp : Sp} (F : Fun K x qn st f fd) (S : FnScope N ps (defScope st)) (len : ∀ vs H Q E, sp vs H Q E → vs.length = ps.length)
    (bod : ∀ (cdv : Value) (A : Around) (out : List PySem.Env) (s : Shared) (H : Hp) (vs : List V) (Q : VK) (E : XK), Room k (A.deeper (envOfC qn (defScope st) s.heap.objs.size f cdv)) → sp vs H Q E →
      ∃ t, PSs (cxOf (L2.CX P w) P w K mg base N qn (defScope st) f cdv A out s H E) (defBody st) t ∧ t { nx := fun _ H' => Q .non H', rt := Q } (L2.start N vs) H) : FnOk P w K mg base (L2.CX P w) (k + 1) f fd ps sp := by
  obtain ⟨oc, od, kV, doc, pm, an, cdv, ct, osl, rfl, lk, hcd⟩ := F.ex
  exact fn_text lk hcd S len fun A out s H vs Q E hr h => bod cdv A out s H vs Q E hr h
theorem fund_ok {CX : CXT} {P : Program} {w : World} {K : PySem.W.Frag} {mg : Str → Option Value} {base : Heap} {x qn : Str} {par : Arguments} {bd : List Stmt} {sc : Scope} {dvs : List V} {kws : List (Str × V)} {f : Addr} {fd : FuncData} {N ps : List Str} {k : Nat} {sp : Sp} (F : FunD K x qn par bd sc dvs kws f fd) (S : FnScope N ps sc) (len : ∀ vs H Q E, sp vs H Q E → vs.length = ps.length)
    (bod : ∀ (cdv : Value) (A : Around) (out : List PySem.Env) (s : Shared) (H : Hp) (vs : List V) (Q : VK) (E : XK), Room k (A.deeper (envOfC qn sc s.heap.objs.size f cdv)) → sp vs H Q E →
      ∃ t, PSs (cxOf CX P w K mg base N qn sc f cdv A out s H E) bd t ∧ t { nx := fun _ H' => Q .non H', rt := Q } (L2.start N vs) H) : FnOk P w K mg base CX (k + 1) f fd ps sp := by
  obtain ⟨oc, od, dV, kV, doc, pm, an, cdv, ct, osl, rfl, lk, hcd, _, _⟩ := F.ex
  exact fn_text lk hcd S len fun A out s H vs Q E hr h => bod cdv A out s H vs Q E hr h
section
variable {X : Cx} {CX : CXT} {k : Nat} {f : Addr} {fd : FuncData} {ps : List Str} {sp : Sp} {ds : List Value} {dvs : List V} {E : L2.St → XK}
theorem run_fnSD {pins : List (Addr × Obj)} {τ : L2.St} {H : Hp} {s : Shared} {Q : VK} {us : List Value} {vs : List V} (F : FnOk X.prog X.w X.K X.mg X.base CX k f fd ps sp) (room : Room k X.A) (bi : Binds X.K fd ps ds) (dv : Vals dvs ds) (pa : PassesAt CX X τ (E τ))
    (I : Inv X pins τ H s) (r : Vals vs us) (want : sp (vs ++ dvs) H Q (E τ)) : wpAny (model X.prog X.w) X.A (call (.ref f) us) (EP X pins τ Q) X.xe s := by
  have rr : Vals (vs ++ dvs) (us ++ ds) := r.append dv
  have many : (us ++ ds).length = ps.length := rr.length.symm.trans (F.len _ _ _ _ want)
  refine wpAny_call (codeAny_mono (F.go _ X.stack _ _ ⟨us, []⟩ _ _ _ (E τ) room I.env0 (bi _ us I.kIn many) rr want) fun res s' got => ?_)
  match res, got with
  | .error e, got => exact pa pins _ _ e s' I got
  | .ok (.ret u), got => exact I.after got
  | .ok .next, got => exact got.elim
  | .ok .brk, got => exact got.elim
  | .ok .cont, got => exact got.elim
theorem pe_callSD {x : Str} {e : Expr} {es : List Expr} {t : TA} {p pos : Pos} (F : FnOk X.prog X.w X.K X.mg X.base CX k f fd ps sp) (room : Room k X.A) (hg : Gl X x) (hm : X.mg x = some (.ref f)) (hk : PySem.W.keepIn X.K (.ref f) = true) (bi : Binds X.K fd ps ds) (dv : Vals dvs ds) (pa : ∀ τ, PassesAt CX X τ (E τ))
    (ha : PA X (e :: es) t) (dbg : (x == ("__debug__" : Str)) = false) (h1 : starEach (e :: es) X.env = (false, eval e X.env) :: starEach es X.env) (h2 : (backTo pos (starEach es X.env)).any (·.1) = false) : PE X (.Call (.Name x p) (e :: es) [] pos) (tCallSD sp dvs E t) := by
  refine ⟨fun pins s τ H Q I h => wpAny_Call_Name_kw (ld_glob I hg hm ?_ dbg)⟩
  exact PySem.W.callWith_K (h₀ := X.base) I.ok.mod.kin hk (thn (ha.run pos pins s τ H _ I h) fun us s1 ⟨vs, H1, I1, r, q⟩ => ⟨I1.kIn, run_fnSD F room bi dv (pa τ) I1 r q⟩) h1 h2
end
/-- a def that may be called by a name: n arguments written, more by defaults -/
structure FnF (P : Program) (w : World) (K : PySem.W.Frag) (mg : Str → Option Value) (base : Heap) (k : Nat) (x : Str) (f : Fn) : Prop where
  dbg : (x == ("__debug__" : Str)) = false
  ex : ∃ (a : Addr) (fd : FuncData) (ps : List Str) (sp : Sp) (ds : List Value) (dvs : List V), mg x = some (.ref a) ∧ PySem.W.keepIn K (.ref a) = true ∧ FnOk P w K mg base (L2.CX P w) k a fd ps sp ∧ Binds K fd ps ds ∧ Vals dvs ds ∧
    ∀ vs H Q E, spF K f.n f.io f.sem vs H Q E → sp (vs ++ dvs) H Q E
def spMk (K : PySem.W.Frag) (C : Str) (n : Nat) (ns : List Str) (F : List D → FR) : Sp := fun vs H Q E => ∃ (M : AS) (ds : List D) (a dx : Addr) (rest : List V), MOk M H ∧ vs = .ref a :: rest ∧ rest.length = n ∧ H a = some (.ins (clsAt K C) dx []) ∧ ¬ M a ∧ RepL K H (fun b => M b ∨ b = a) ds rest ∧
  (match F ds with
   | .ok _ out => ∀ (xs : List V) H', Stp (fun x => x = a) H H' → H' a = some (.ins (clsAt K C) dx (ns.zip xs)) → ns.length = xs.length → RepL K H' M out xs → Q .non H'
   | .exc C' f d _ => ∀ dd v H', Stp (fun x => x = a) H H' → H' dd = some (.xd [(f, v)]) → Rep K H' M d v → E (.ref (clsAt K C')) (some dd) H'
   | .bad => False)
structure MkF (P : Program) (w : World) (K : PySem.W.Frag) (mg : Str → Option Value) (base : Heap) (k : Nat) (x : Str) (m : Mkr) : Prop where
  dbg : (x == ("__debug__" : Str)) = false
  ex : ∃ (a : Addr) (fd : FuncData) (ps : List Str) (sp : Sp) (ds : List Value) (dvs : List V), mg x = some (.ref (clsAt K m.C)) ∧ Mk K (clsAt K m.C) a ∧ FnOk P w K mg base (L2.CX P w) k a fd ps sp ∧ Binds K fd ps ds ∧ Vals dvs ds ∧
    ∀ v vs H Q E, spMk K m.C m.n m.ns m.sem (v :: vs) H Q E → sp (v :: (vs ++ dvs)) H Q E
structure MtF (P : Program) (w : World) (K : PySem.W.Frag) (mg : Str → Option Value) (base : Heap) (k : Nat) (m : Mt) : Prop where
  cl : Cls K (clsAt K m.C)
  ex : ∃ (a : Addr) (fd : FuncData) (ps : List Str) (sp : Sp) (ds : List Value) (dvs : List V), Meth K (clsAt K m.C) m.name a ∧ FnOk P w K mg base (L2.CX P w) k a fd ps sp ∧ Binds K fd ps ds ∧ Vals dvs ds ∧
    ∀ vs H Q E, spF K m.n none m.sem vs H Q E → sp (vs ++ dvs) H Q E
section
variable {X : Cx} {G : Ctx} {W : WX}
theorem call_read {K : PySem.W.Frag} {j : Nat} {f : Fn} {is : List IR} {sp : Sp} {dvs : List V} (hj : G.fns[j]? = some f) (hs : ∀ vs H Q E, spF K f.n f.io f.sem vs H Q E → sp (vs ++ dvs) H Q E) {σ : L2.St} {H : Hp} {Q : VK} (q : tI G W K (.call j is) σ H Q) :
    tCallSD sp dvs (WE W) (tIa G W K f.io 0 is) σ H Q := by
  obtain ⟨H0, M0, A, env, E, q⟩ := q
  rw [ev, hj] at q
  dsimp only at q
  by_cases hl : is.length = f.n
  · rw [if_pos hl] at q
    refine ⟨H0, M0, A, env, E, (Sat.bind q).mono fun p e1 H1 he s1 u1 E1 h1 vs hv => ?_⟩
    refine hs vs H1 Q _ ?_
    obtain ⟨hi, _⟩ := eva_ops G f.io is 0 env p e1 he
    cases e : p.1.mapM (rdO e1) with
    | none => rw [e] at h1; exact h1.elim
    | some ds =>
      rw [e] at h1
      have ln : vs.length = f.n := by
        rw [← Paired.length hv]
        have := eva_len G f.io is 0 env p e1 he
        rw [this]; exact hl
      exact call_end E1 hv ln hi e h1
  · rw [if_neg hl] at q
    exact q.elim
where
  eva_len (G : Ctx) (io : Option Nat) : ∀ (es : List IR) (n : Nat) (env : Env) (p : List Opd × List Nat) (e1 : Env), eva G io n es env = .ok p e1 → p.1.length = es.length
  | [], n, env, p, e1, h => by rw [eva] at h; cases h; rfl
  | e :: es, n, env, p, e1, h => by
    rw [eva] at h
    by_cases hio : io = some n
    · rw [if_pos hio] at h
      cases h1 : ev G e env with
      | bad => rw [h1] at h; cases h
      | exc C f d e2 => rw [h1] at h; cases h
      | ok o e2 =>
        rw [h1] at h
        cases o with
        | val d => cases h
        | pl i =>
          have h : ((eva G io (n + 1) es e2).bind fun p e2 => R.ok (Opd.pl i :: p.1, i :: p.2) e2) = .ok p e1 := h
          cases h2 : eva G io (n + 1) es e2 with
          | bad => rw [h2] at h; cases h
          | exc C f d e3 => rw [h2] at h; cases h
          | ok q e3 =>
            rw [h2] at h
            cases h
            simp [eva_len G io es (n + 1) e2 q _ h2]
    · rw [if_neg hio] at h
      cases h1 : (ev G e env).take with
      | bad => rw [h1] at h; cases h
      | exc C f d e2 => rw [h1] at h; cases h
      | ok d e2 =>
        rw [h1] at h
        have h : ((eva G io (n + 1) es e2).bind fun p e2 => R.ok (Opd.val d :: p.1, p.2) e2) = .ok p e1 := h
        cases h2 : eva G io (n + 1) es e2 with
        | bad => rw [h2] at h; cases h
        | exc C f d e3 => rw [h2] at h; cases h
        | ok q e3 =>
          rw [h2] at h
          cases h
          simp [eva_len G io es (n + 1) e2 q _ h2]
theorem e_call {k j : Nat} {f : Fn} {x : Str} {e : Expr} {es : List Expr} {is : List IR} {p pos : Pos} (F : FnF X.prog X.w X.K X.mg X.base k x f) (hj : G.fns[j]? = some f) (hr : Room k X.A) (tk : Takes X W) (hg : Gl X x) (ha : PA X (e :: es) (tIa G W X.K f.io 0 is)) (h1 : (e :: es).any starB = false) :
    PE X (.Call (.Name x p) (e :: es) [] pos) (tI G W X.K (.call j is)) := by
  rw [List.any_cons, Bool.or_eq_false_iff] at h1
  obtain ⟨a, fd, ps, sp, ds, dvs, hm, hk, ok, hb, hd, hs⟩ := F.ex
  exact PE.by_ (pe_callSD ok hr hg hm hk hb hd (fun σ => passAt tk σ) ha F.dbg (star_cons h1.1) (star_none h1.2)) fun σ H Q q => call_read hj hs q
/-- a class is called; what is raised is wished for at the caller's slots -/
theorem mkS {CX : CXT} {k : Nat} {C f : Addr} {fd : FuncData} {ps : List Str} {sp : Sp} {dvs : List V} {dds : List Value} {T : L2.St → XK} {pins : List (Addr × Obj)} {τ : L2.St} {H : Hp} {s : Shared} {Q : VK} {us : List Value} {vs : List V}
    (M : Mk X.K C f) (F : FnOk X.prog X.w X.K X.mg X.base CX k f fd ps sp) (room : Room (k + 1) X.A) (bi : Binds X.K fd ps dds) (dv : Vals dvs dds) (pa : PassesAt CX X τ (T τ)) (I : Inv X pins τ H s) (r : Vals vs us)
    (h : ∀ o d, H o = none → H d = none → d ≠ o → sp (.ref o :: (vs ++ dvs)) (upd (upd H d (.own o)) o (.ins C d [])) (fun v H2 => v = .non ∧ Q (.ref o) H2) (T τ)) : wpAny (model X.prog X.w) X.A (call (.ref C) us) (EP X pins τ Q) X.xe s := by
  have sz := s.heap.objs.size
  have want := h (s.heap.objs.size + 1) s.heap.objs.size (I.hok.fresh (Nat.le_succ _)) (I.hok.fresh (Nat.le_refl _)) (Nat.ne_of_lt (Nat.lt_succ_self _))
  have J := Inv.made (C := C) I
  have rr : Vals (V.ref (s.heap.objs.size + 1) :: (vs ++ dvs)) (Value.ref (s.heap.objs.size + 1) :: (us ++ dds)) := .cons rfl (r.append dv)
  have many : (Value.ref (s.heap.objs.size + 1) :: us ++ dds).length = ps.length := (rr.length.symm.trans (F.len _ _ _ _ want))
  have bound := bi _ (Value.ref (s.heap.objs.size + 1) :: us) J.kIn many
  refine wpAny_call (make_map (f := f) I.kIn M.makes M.init (beq_iff_eq.mp M.fn) (codeAny_mono (F.go _ X.stack _ _ ⟨Value.ref (s.heap.objs.size + 1) :: us, []⟩ _ _ _ (T τ) (room.make C us []) (J.env0.make C us []) bound rr want) fun res s' got => ?_))
  match res, got with
  | .error e, got => exact pa pins _ _ e s' J got
  | .ok (.ret u), got =>
    obtain ⟨v, H', J', rv, ev, q⟩ := J.after got
    cases ev
    exact ⟨rv, V.ref (s.heap.objs.size + 1), H', J', rfl, q⟩
  | .ok .next, got => exact got.elim
  | .ok .brk, got => exact got.elim
  | .ok .cont, got => exact got.elim
theorem evs_len (G : Ctx) : ∀ (es : List IR) (env : Env) (p : List D) (e1 : Env), evs G es env = .ok p e1 → p.length = es.length
  | [], env, p, e1, h => by rw [evs] at h; cases h; rfl
  | e :: es, env, p, e1, h => by
    rw [evs] at h
    cases h1 : (ev G e env).take with
    | bad => rw [h1] at h; cases h
    | exc C f d e2 => rw [h1] at h; cases h
    | ok d e2 =>
      rw [h1] at h
      have h : ((evs G es e2).bind fun ds e2 => R.ok (d :: ds) e2) = .ok p e1 := h
      cases h2 : evs G es e2 with
      | bad => rw [h2] at h; cases h
      | exc C f d e3 => rw [h2] at h; cases h
      | ok q e3 =>
        rw [h2] at h
        cases h
        simp [evs_len G es e2 q _ h2]
theorem make_read {K : PySem.W.Frag} {j : Nat} {m : Mkr} {is : List IR} (hj : G.mks[j]? = some m) {σ : L2.St} {H : Hp} {Q : VK} (q : tI G W K (.make j is) σ H Q) :
    tIs G W K is σ H fun vs H1 => ∀ o d, H1 o = none → H1 d = none → d ≠ o → spMk K m.C m.n m.ns m.sem (.ref o :: vs) (upd (upd H1 d (.own o)) o (.ins (clsAt K m.C) d [])) (fun v H2 => v = .non ∧ Q (.ref o) H2) (WE W σ) := by
  obtain ⟨H0, M0, A, env, E, q⟩ := q
  rw [ev, hj] at q
  dsimp only at q
  by_cases hl : is.length = m.n
  · rw [if_pos hl] at q
    refine ⟨H0, M0, A, env, E, (Sat.bind q).mono fun ds e1 H1 he s1 u1 E1 h1 vs hv o d ho hd hne => ?_⟩
    have t1 : Stp NoA H1 (upd (upd H1 d (.own o)) o (.ins (clsAt K m.C) d [])) := (Stp.new hd).trans (Stp.new (by rw [upd_ne (Ne.symm hne)]; exact ho))
    have lv : vs.length = m.n := by rw [← hv.length, evs_len G is env ds e1 he]; exact hl
    refine ⟨MM M0 e1 σ, ds, o, d, vs, ⟨fun b hb => t1.mo b (E1.mok.al b hb), fun P q h => t1.tb P q h (E1.tb P q h)⟩, rfl, lv, upd_same, (E1.fresh ho).1, RepL.stp t1.no (fun _ z => z) ds vs (RepL.grow (fun b z => z.elim .inl fun q => .inr (by rw [q]; exact nn_of ho)) ds vs hv), ?_⟩
    · have back : ∀ {H' : Hp}, Stp (fun x => x = o) (upd (upd H1 d (.own o)) o (.ins (clsAt K m.C) d [])) H' → Stp NoA H1 H' := fun {H'} s => ⟨fun b u e _ t => s.st b u (t1.st b u e id t) (fun z => by rw [z, ho] at e; cases e) t, fun b h => s.mo b (t1.mo b h), fun P q m h => s.tb P q m (t1.tb P q m h)⟩
      cases e : m.sem ds with
      | bad => rw [e] at h1; exact h1.elim
      | ok r out =>
        rw [e] at h1
        intro xs H' st h' hlen rr
        refine ⟨rfl, h1 H' (back st).no Sub.refl (E1.keep (back st)) _ ?_⟩
        show Rep K H' (MM M0 e1 σ) (.obj m.C m.ns out) (.ref o)
        unfold Rep
        exact ⟨o, d, xs, rfl, (E1.fresh ho).1, h', hlen, rr⟩
      | exc C f r out =>
        rw [e] at h1
        intro dd v H' st h' rr
        exact h1 dd v H' (back st).no Sub.refl (E1.keep (back st)) h' rr
  · rw [if_neg hl] at q
    exact q.elim
theorem e_make {k j : Nat} {m : Mkr} {x : Str} {e : Expr} {es : List Expr} {is : List IR} {p pos : Pos} (F : MkF X.prog X.w X.K X.mg X.base k x m) (hj : G.mks[j]? = some m) (hr : Room (k + 1) X.A) (tk : Takes X W) (hg : Gl X x) (ha : PA X (e :: es) (tIs G W X.K is)) (h1 : (e :: es).any starB = false) :
    PE X (.Call (.Name x p) (e :: es) [] pos) (tI G W X.K (.make j is)) := by
  rw [List.any_cons, Bool.or_eq_false_iff] at h1
  obtain ⟨a, fd, ps, sp, ds, dvs, hm, hk, ok, hb, hd, hs⟩ := F.ex
  refine ⟨fun pins s σ H Q I h => ?_⟩
  refine wpAny_Call_Name_kw (ld_glob I hg hm ?_ F.dbg)
  refine PySem.W.callWith_K (h₀ := X.base) I.ok.mod.kin hk.kp (thn (ha.run pos pins s σ H _ I (make_read hj h)) fun us s1 ⟨vs, H1, I1, r, q⟩ => ⟨I1.kIn, ?_⟩) (star_cons h1.1) (star_none h1.2)
  exact mkS (T := WE W) hk ok hr hb hd (passAt tk σ) I1 r fun o d ho hd' hne => hs _ _ _ _ _ (q o d ho hd' hne)
end
end Mp
set_option maxHeartbeats 4000000
namespace Mp
open PySem L2
variable [TabsW] [GdW]
section
variable {X : Cx} {G : Ctx} {W : WX}
theorem lookup_zip_none {f : Str} : ∀ {ns : List Str} {xs : List V}, ns.contains f = false → (ns.zip xs).lookup f = none
  | [], xs, _ => by simp
  | n :: ns, [], _ => by simp
  | n :: ns, x :: xs, h => by
    rw [List.contains_cons, Bool.or_eq_false_iff] at h
    rw [List.zip_cons_cons, List.lookup_cons, h.1]
    exact lookup_zip_none h.2
theorem meth_read {K : PySem.W.Frag} {j : Nat} {m : Mt} {o' : IR} {is : List IR} (hj : G.mts[j]? = some m) {σ : L2.St} {H : Hp} {Q : VK} (q : tI G W K (.meth j o' is) σ H Q) :
    tI G W K o' σ H fun x H1 => ∃ a dx fs, x = .ref a ∧ H1 a = some (.ins (clsAt K m.C) dx fs) ∧ fs.lookup m.name = none ∧ tIs G W K is σ H1 fun vs H2 => spF K m.n none m.sem (x :: vs) H2 Q (WE W σ) := by
  obtain ⟨H0, M0, A, env, E, q⟩ := q
  rw [ev, hj] at q
  dsimp only at q
  refine ⟨H0, M0, A, env, E, (Sat.bind q).mono fun o e1 H1 he s1 u1 E1 h1 x hx => ?_⟩
  cases o with
  | pl i => exact h1.elim
  | val d =>
    cases d with
    | obj C ns ds =>
      have h1 : Sat K H0 M0 A W (if C = m.C ∧ is.length + 1 = m.n ∧ ns.contains m.name = false then (evs G is e1).bind fun vs e2 => frR e2 none [] (m.sem (.obj C ns ds :: vs)) else .bad) e1 σ H1 (fun o e1 H1 => ∀ v, OpdR K M0 e1 σ H1 o v → Q v H1) := h1
      by_cases hc : C = m.C ∧ is.length + 1 = m.n ∧ ns.contains m.name = false
      · rw [if_pos hc] at h1
        obtain ⟨hC, hn, hno⟩ := hc
        have hx0 : Rep K H1 (MM M0 e1 σ) (.obj C ns ds) x := hx
        have hx1 := hx0
        unfold Rep at hx1
        obtain ⟨a, dx, xs, rfl, nm, ha, hl, rr⟩ := hx1
        refine ⟨a, dx, _, rfl, by rw [← hC]; exact ha, lookup_zip_none hno, ?_⟩
        refine ⟨H0, M0, A, e1, E1, (Sat.bind h1).mono fun vs e2 H2 he2 s2 u2 E2 h2 ws hw => ?_⟩
        have hx2 := hold hx0 E1.aM s2 u2
        refine ⟨by rw [List.length_cons, ← hw.length, evs_len G is e1 vs e2 he2]; exact hn, MM M0 e2 σ, .obj C ns ds :: vs, E2.mok, ?_, ?_⟩
        · refine ⟨by simp [hw.length], fun i d v g1 g2 => ⟨fun _ => ?_, fun z => nomatch z⟩⟩
          obtain ⟨y, y1, y2⟩ := (RepL.cons hx2 hw).get g1
          rw [g2] at y1; cases y1
          exact y2
        · cases e : m.sem (.obj C ns ds :: vs) with
          | bad => rw [e] at h2; exact h2.elim
          | ok d out =>
            rw [e] at h2
            intro v H' st _ rv
            have st' : Stp NoA H2 H' := st.weak fun a ⟨i, z, _⟩ => nomatch z
            exact h2 H' st'.no Sub.refl (E2.keep st') v rv
          | exc C f d out =>
            rw [e] at h2
            intro dd v H' st _ hd rv
            have st' : Stp NoA H2 H' := st.weak fun a ⟨i, z, _⟩ => nomatch z
            exact h2 dd v H' st'.no Sub.refl (E2.keep st') hd rv
      · rw [if_neg hc] at h1; exact h1.elim
    | _ => exact h1.elim
/-- no call of super() -/
def baseB : Expr → Bool
  | .Call _ [] [] _ => true
  | _ => false
theorem base_of {o : Expr} {f : Str} {env : PySem.Env} {whole : Sem Value} (h : baseB o = false) : attributeBase o f env whole = whole := by
  unfold attributeBase
  split
  · cases h
  · rfl
theorem e_meth0 {k j : Nat} {m : Mt} {o : Expr} {o' : IR} {apos pos : Pos} {pl : Sem Bool} (F : MtF X.prog X.w X.K X.mg X.base k m) (hj : G.mts[j]? = some m) (hr : Room k X.A) (tk : Takes X W) (ho : PE X o (tI G W X.K o'))
    (ht : eval (.Call (.Attribute o m.name apos) [] [] pos) X.env = (do
      let ov ← eval o X.env
      standAt apos.atName
      let (f, first) ← holding [ov] (getMethod ov m.name pl)
      callWith pos f first (backTo pos (starEach [] X.env)) (backToKw pos (keywordEach [] X.env)))) : PE X (.Call (.Attribute o m.name apos) [] [] pos) (tI G W X.K (.meth j o' [])) := by
  obtain ⟨a, fd, ps, sp, ds, dvs, hm, ok, hb, hd, hs⟩ := F.ex
  refine ⟨fun pins s σ H Q I h => ?_⟩
  refine PySem.W.methodCall_KW (pl := pl) (thn (ho.run pins s σ H _ I (meth_read hj h)) fun u s1 ⟨x, H1, I1, rx, got⟩ => ?_) ht
  obtain ⟨b, dx, fs, rfl, hb1, hl1, q⟩ := got
  have eu : u = Value.ref b := rx
  rw [eu]
  refine getmeth_ok I1 hb1 F.cl hm hl1 ?_
  obtain ⟨H0, M0, A, env, E, q⟩ := q
  rw [evs] at q
  have q2 := q H1 Stp.refl Sub.refl E [] RepL.nil
  exact PySem.W.callWith_K0 (first := [.ref b]) I1.kIn hm.kp (run_fnSD (E := WE W) (us := [.ref b]) (vs := [.ref b]) ok hr hb hd (passAt tk σ) I1 (.cons rfl .nil) (hs _ _ _ _ q2))
theorem lookup_zip {K : PySem.W.Frag} {H : Hp} {M : AS} {f : Str} {d : D} : ∀ {ns : List Str} {ds : List D} {xs : List V}, RepL K H M ds xs → ns.length = xs.length → (ns.zip ds).lookup f = some d → ∃ x, (ns.zip xs).lookup f = some x ∧ Rep K H M d x
  | [], ds, xs, r, hl, e => by simp at e
  | n :: ns, [], xs, r, hl, e => by simp at e
  | n :: ns, d' :: ds, xs, r, hl, e => by
    unfold RepL at r
    obtain ⟨x, ys, rfl, r1, r2⟩ := r
    rw [List.zip_cons_cons, List.lookup_cons] at e ⊢
    cases h : f == n with
    | true => rw [h] at e; cases e; exact ⟨x, rfl, r1⟩
    | false => rw [h] at e; exact lookup_zip r2 (by simpa using hl) e
/-- what is known of the classes whose fields are read -/
structure ClsF (K : PySem.W.Frag) (cs : List Str) (fs : List Str) : Prop where
  cl : ∀ C ∈ cs, Cls K (clsAt K C)
  no : ∀ C ∈ cs, ∀ f ∈ fs, NoAttr K (clsAt K C) f
theorem e_fld {o : Expr} {f : Str} {o' : IR} {pos : Pos} {fs : List Str} (F : ClsF X.K G.cls fs) (hf : f ∈ fs) (ho : PE X o (tI G W X.K o')) (hb : baseB o = false) : PE X (.Attribute o f pos) (tI G W X.K (.fld o' f)) := PE.by_ (pe_fld ho (base_of hb)) fun σ H Q q => by
  obtain ⟨H0, M0, A, env, E, q⟩ := q
  rw [ev] at q
  refine ⟨H0, M0, A, env, E, (Sat.bind q).mono fun o2 e1 H1 he s1 u1 E1 h1 x hx => ?_⟩
  cases e : rdO e1 o2 with
  | none => rw [e] at h1; exact h1.elim
  | some d =>
    rw [e] at h1
    have r := hx.rdT E1 e
    cases d with
    | obj C ns ds =>
      have h1 : Sat X.K H0 M0 A W (if G.cls.contains C then lift e1 ((ns.zip ds).lookup f) else .bad) e1 σ H1 (fun o e1 H1 => ∀ v, OpdR X.K M0 e1 σ H1 o v → Q v H1) := h1
      by_cases hc : G.cls.contains C = true
      · rw [if_pos hc] at h1
        have hC : C ∈ G.cls := by simpa using hc
        have r' : Rep X.K H1 (MM M0 e1 σ) (.obj C ns ds) x := r
        unfold Rep at r'
        obtain ⟨a, dx, xs, rfl, nm, ha, hl, rr⟩ := r'
        cases e2 : (ns.zip ds).lookup f with
        | none => rw [e2] at h1; exact h1.elim
        | some z =>
          rw [e2] at h1
          obtain ⟨y, y1, y2⟩ := lookup_zip rr hl e2
          exact ⟨a, clsAt X.K C, dx, _, y, rfl, ha, F.cl C hC, F.no C hC f hf, y1, h1 H1 Stp.refl Sub.refl E1 y y2⟩
      · rw [if_neg hc] at h1; exact h1.elim
    | _ => exact h1.elim
end
end Mp
set_option maxHeartbeats 4000000
namespace Mp
open PySem PyProof.Rows
open PySem.Sem (wp)
theorem ne2 {c i l z : Addr} (h : c = i ∨ c = l) (a : i ≠ z) (b : l ≠ z) : c ≠ z := by rcases h with rfl | rfl <;> assumption
/-- an inner iterator: where it stands, what its next item is, and that it ends -/
structure Inner (prog : Program) (w : World) (it src : Addr) (items : Array Value) (St : Heap → Nat → Prop) : Prop where
  stay : ∀ {h h' : Heap} {k : Nat}, St h k → (∀ c o, c = it ∨ c = src → h.get? c = some o → h'.get? c = some o) → St h' k
  here : ∀ {h : Heap} {k : Nat}, St h k → it < h.objs.size
  item : ∀ {A : Around} {E : Value → Shared → Prop} {s : Shared} {k : Nat} {x : Value} {Q : Value → Shared → Prop}, St s.heap k → items[k]? = some x →
    (∀ h', St h' (k + 1) → Heap.SameBut it s.heap h' → Q x { s with heap := h' }) → wpAny (model prog w) A (Builtin.SmallTypes.nextOf (.ref it)) Q E s
  stop : ∀ {A : Around} {E : Value → Shared → Prop} {s : Shared} {k : Nat} {Q : Value → Shared → Prop}, A.handled = none → St s.heap k → items[k]? = none →
    (∀ h' e, Heap.ExtBut it s.heap h' → (∃ o, h'.get? e = some o ∧ o.cls = .type "StopIteration") → E (.ref e) { s with heap := h' }) → wpAny (model prog w) A (Builtin.SmallTypes.nextOf (.ref it)) Q E s
section
variable {prog : Program} {w : World}
theorem inner_tuple {i l : Addr} {xs : Array Value} (ne : l ≠ i) : Inner prog w i l xs (fun h k => h.IsTupleIter i l k ∧ h.IsTuple l xs) where
  stay := fun ⟨a, b⟩ k => ⟨a.at fun o q => k _ o (.inl rfl) q, let ⟨o, q, r⟩ := b; ⟨o, k _ o (.inr rfl) q, r⟩⟩
  here := fun ⟨⟨_, q, _⟩, _⟩ => Heap.lt_size q
  item := fun ⟨a, b⟩ hx q => RZ.nextOf_tuple_item a b hx fun h' u v => q h' ⟨u, b.extBut v.extBut ne⟩ v
  stop := fun hh ⟨a, b⟩ hx q => RZ.nextOf_tuple_end hh a b hx q
end
open PySem.Spec L2
end Mp
set_option maxHeartbeats 4000000
namespace Mp
open PySem PyProof.Rows
open PySem.Sem (wp)
section
variable {prog : Program} {w : World}
section
variable {A : Around} {E : Value → Shared → Prop} {s : Shared} {z m l : Addr} {n : Nat} {xs : Array Value} {last : Value} {S : Heap → Nat → Prop}
theorem num_item {x : Value} {Q : Option Value → Shared → Prop} (J : Inner prog w m l xs S) (g : IsEnum s.heap z m ((n : Nat) : Int) last) (p : S s.heap n) (hx : xs[n]? = some x) (zm : z ≠ m) (zl : z ≠ l)
    (q : ∀ h', IsEnumOut h' z m ((n : Int) + 1) x s.heap.objs.size → S h' (n + 1) → h'.get? s.heap.objs.size = some { cls := .type "tuple", data := .seq #[.int n s.toks, x] } → h'.objs.size = s.heap.objs.size + 1 →
      (∀ c o, c ≠ z → c ≠ m → s.heap.get? c = some o → h'.get? c = some o) → Q (some (.ref s.heap.objs.size)) { s with heap := h', toks := s.toks + 1 }) : wpAny (model prog w) A (pyNext (.ref z)) Q E s := by
  obtain ⟨h0, gs, ds, tk, os⟩ := s
  have tz : Shared.TypeIs ⟨h0, gs, ds, tk, os⟩ (.ref z) "enumerate" := ⟨_, g, rfl⟩
  unfold pyNext; refine wpAny_bind (wpAny_attempt (wpAny_callSpecial?_slot (name := Str.ofString "__next__") tz F.slot_enumerate_next (wpAny_call_entry F.slot_enumerate_next tz F.entry_enumerate_next ?_ (F.args_enumerate_next_1 _))))
  show wpAny _ _ (field (.ref z) 2 >>= _) _ _ _; refine wpAny_bind (wpAny_field g rfl (x := .ref m) rfl (wpAny_bind (J.item p hx fun ha pa sa => ?_)))
  have sa : Heap.SameBut m h0 ha := sa
  have ga : IsEnum ha z m ((n : Nat) : Int) last := (sa.2 z zm).trans g
  show wpAny _ _ (field (.ref z) 3 >>= _) _ _ ⟨ha, gs, ds, tk, os⟩; refine wpAny_bind (wpAny_field ga rfl (x := rawInt n) rfl ?_)
  show wpAny _ _ (field (.ref z) 4 >>= _) _ _ ⟨ha, gs, ds, tk, os⟩; refine wpAny_bind (wpAny_field ga rfl (x := .none) rfl ?_)
  show wpAny _ _ (mkInt n >>= _) _ _ ⟨ha, gs, ds, tk, os⟩; refine wpAny_bind (wpAny_mkInt ?_)
  show wpAny _ _ (setField (.ref z) 3 (rawInt ((n : Int) + 1)) >>= _) _ _ ⟨ha, gs, ds, tk + 1, os⟩; refine wpAny_bind (wpAny_setField_rec ga (by simp) fun hb gb sb => ?_)
  have sb : Heap.SameBut z ha hb := sb
  have gb : IsEnum hb z m ((n : Int) + 1) last := gb
  show wpAny _ _ (setField (.ref z) 4 .none >>= _) _ _ ⟨hb, gs, ds, tk + 1, os⟩; refine wpAny_bind (wpAny_setField_rec gb (by simp) fun hc gc sc => ?_)
  have sc : Heap.SameBut z hb hc := sc
  have gc : IsEnum hc z m ((n : Int) + 1) last := gc
  show wpAny _ _ (newTuple [.int n tk, x] >>= _) _ _ ⟨hc, gs, ds, tk + 1, os⟩; refine wpAny_bind (wpAny_newTuple ?_)
  have size : hc.objs.size = h0.objs.size := by rw [sc.1, sb.1, sa.1]
  have zl' : z < h0.objs.size := Heap.lt_size g
  have pc : S hc (n + 1) := J.stay pa fun c o hcm u => sc.extBut _ _ (ne2 hcm zm.symm zl.symm) (sb.extBut _ _ (ne2 hcm zm.symm zl.symm) u)
  have gd : IsEnum (hc.push { cls := .type "tuple", data := .seq #[.int n tk, x] }) z m ((n : Int) + 1) last := Heap.get?_push_of_some _ gc
  have td : (hc.push { cls := .type "tuple", data := .seq #[.int n tk, x] }).get? h0.objs.size = some { cls := .type "tuple", data := .seq #[.int n tk, x] } := by rw [← size]; exact Heap.get?_push_size _ rfl
  have nd : (hc.push { cls := .type "tuple", data := .seq #[.int n tk, x] }).objs.size = h0.objs.size + 1 := by rw [Heap.size_push, size]
  have pd : S (hc.push { cls := .type "tuple", data := .seq #[.int n tk, x] }) (n + 1) := J.stay pc fun c o _ u => Heap.get?_push_of_some _ u
  have kd : ∀ c o, c ≠ z → c ≠ m → h0.get? c = some o → (hc.push { cls := .type "tuple", data := .seq #[.int n tk, x] }).get? c = some o := fun c o n1 n2 u => Heap.get?_push_of_some _ (sc.extBut _ _ n1 (sb.extBut _ _ n1 (sa.extBut _ _ n2 u)))
  show wpAny _ _ (Builtin.SmallTypes.ownedTupleIsFree (.ref z) >>= _) _ _ ⟨hc.push { cls := .type "tuple", data := .seq #[.int n tk, x] }, gs, ds, tk + 1, os⟩
  rw [size]
  generalize hc.push { cls := .type "tuple", data := .seq #[.int n tk, x] } = hd at gd td nd pd kd ⊢
  refine wpAny_bind ?_; unfold Builtin.SmallTypes.ownedTupleIsFree; refine wpAny_bind (wpAny_field gd rfl (x := .none) rfl (wpAny_pure ?_))
  simp only [if_true]; refine wpAny_bind (wpAny_rule (wpAny_bind (wpAny_field gd rfl (x := last) rfl ?_)))
  refine wpAny_bind (wpAny_setField_rec gd (by simp) fun he ge se => ?_)
  have se : Heap.SameBut z hd he := se
  have ge : IsEnum he z m ((n : Int) + 1) x := ge
  show wpAny _ _ (Builtin.SmallTypes.ownedTupleHandOut (.ref z) (.ref h0.objs.size) >>= _) _ _ ⟨he, gs, ds, tk + 1, os⟩; refine wpAny_bind ?_
  unfold Builtin.SmallTypes.ownedTupleHandOut; refine wpAny_bind (wpAny_setField_rec ge (by simp) fun hf gf sf => ?_)
  have sf : Heap.SameBut z he hf := sf
  have gf : IsEnumOut hf z m ((n : Int) + 1) x h0.objs.size := gf
  refine wpAny_setField_rec gf (by simp) fun hg gg sg => ?_
  have sg : Heap.SameBut z hf hg := sg
  have gg : IsEnumOut hg z m ((n : Int) + 1) x h0.objs.size := gg
  have up : ∀ c o, c ≠ z → hd.get? c = some o → hg.get? c = some o := fun c o ne u => sg.extBut _ _ ne (sf.extBut _ _ ne (se.extBut _ _ ne u))
  refine wpAny_bind (wpAny_letGo (wpAny_pure ⟨_, rfl, wpAny_pure (q hg gg ?_ ?_ ?_ ?_)⟩))
  · exact J.stay pd fun c o hcm u => up c o (ne2 hcm zm.symm zl.symm) u
  · exact up _ _ (Nat.ne_of_gt zl') td
  · rw [sg.1, sf.1, se.1, nd]
  · exact fun c o n1 n2 u => up c o n1 (kd c o n1 n2 u)
theorem num_end {Q : Option Value → Shared → Prop} (hh : A.handled = none) (J : Inner prog w m l xs S) (g : IsEnum s.heap z m ((n : Nat) : Int) last) (p : S s.heap n) (hx : xs[n]? = none)
    (q : ∀ h', Heap.ExtBut m s.heap h' → Q none { s with heap := h' }) : wpAny (model prog w) A (pyNext (.ref z)) Q E s := by
  have tz : s.TypeIs (.ref z) "enumerate" := ⟨_, g, rfl⟩
  unfold pyNext; refine wpAny_bind (wpAny_attempt (wpAny_callSpecial?_slot (name := Str.ofString "__next__") tz F.slot_enumerate_next (wpAny_call_entry F.slot_enumerate_next tz F.entry_enumerate_next ?_ (F.args_enumerate_next_1 _))))
  show wpAny _ _ (field (.ref z) 2 >>= _) _ _ _; refine wpAny_bind (wpAny_field g rfl (x := .ref m) rfl (wpAny_bind (J.stop hh p hx fun h' e se ⟨oe, ge, ce⟩ => ?_)))
  refine wpAny_bind (wpAny_isInstance (T := "StopIteration") (b := true) ⟨oe, ge, ce⟩ isSubtype_stop ?_)
  exact wpAny_pure (q _ se)
end
abbrev ntA (h : Heap) (m : Addr) : Heap := h.push { cls := .type "tuple_iterator", data := .fields #[.ref m, .int 0 0] }
abbrev ntB (h : Heap) (m : Addr) : Heap := (ntA h m).push { cls := .type "enumerate", data := .fields #[.none, .bool false, .ref h.objs.size, rawInt 0, .none, .none] }
theorem meets_num (m : Addr) (ys : Array Value) (k : Nat) (dc : Option Addr) (so : Array (Option Value)) : Meets (Builtin.«enumerate.__new__» ⟨[.type "enumerate", .ref m], []⟩) (fun _ R s => s.heap.get? m = some { cls := .type "tuple", dict := dc, data := .seq ys k, slots := so } ∧ R (.ok (.ret (.ref (ntA s.heap m).objs.size))) { s with heap := ntB s.heap m }) :=
  .of_wp fun prog w A R s h => by
    obtain ⟨h0, gs, ds, tk, os⟩ := s; obtain ⟨gm, h⟩ := h; have below := sub_enumerate
    have g2 : Heap.IsTuple (Shared.heap ⟨h0, gs, ds, tk, os⟩) m ys := ⟨_, gm, rfl, k, rfl⟩
    wp_walk using PySem.AutoSeq1.wpAny_loadPart' gm
    refine wpAny_stack_any fun st => wpAny_pure ?_; split
    · rename_i c _ _ _ _ _; cases (c == Value.type "enumerate")
      · wp_walk using PySem.AutoSeq1.wpAny_loadPart' gm, wpAny_pyIter_tuple g2; exact ⟨_, rfl, h⟩
      · wp_walk using PySem.AutoSeq1.wpAny_loadPart' gm, wpAny_pyIter_tuple g2; exact ⟨_, rfl, h⟩
    · wp_walk using PySem.AutoSeq1.wpAny_loadPart' gm, wpAny_pyIter_tuple g2; exact ⟨_, rfl, h⟩
section
variable {A : Around} {E : Value → Shared → Prop} {s : Shared}
theorem call_num {m : Addr} {ys : Array Value} {Q : Value → Shared → Prop} (gm : s.heap.IsTuple m ys)
    (q : ∀ h', IsEnum h' (s.heap.objs.size + 1) s.heap.objs.size 0 .none → h'.IsTupleIter s.heap.objs.size m 0 → (∀ c o, s.heap.get? c = some o → h'.get? c = some o) → Q (.ref (s.heap.objs.size + 1)) { s with heap := h' }) :
    wpAny (model prog w) A (call (.type "enumerate") [.ref m]) Q E s := by
  obtain ⟨⟨c, dc, dt, so⟩, gm, ec, k, ed⟩ := gm
  have ec : c = .type "tuple" := ec
  have ed : dt = .seq ys k := ed
  subst ec ed
  refine callType_new F.called_enumerate (by decide) (F.typeCall_enumerate_1 _) (F.newCall_enumerate_1 _) (fun obj => F.args_object_init_2 obj _) F.entry_enumerate_new (meets_num m ys k dc so) ⟨gm, ?_⟩
  have n1 : (ntA s.heap m).objs.size = s.heap.objs.size + 1 := Heap.size_push ..
  show _ ∧ _
  rw [n1]
  have e2 : (ntB s.heap m).get? (ntA s.heap m).objs.size = some _ := Heap.get?_push_size _ rfl
  rw [n1] at e2
  have e1 : (ntB s.heap m).get? s.heap.objs.size = some _ := Heap.get?_push_of_some _ (Heap.get?_push_size _ rfl)
  exact ⟨⟨_, e2, rfl⟩, q _ e2 ⟨_, e1, rfl, rfl⟩ fun c o u => Heap.get?_push_of_some _ (Heap.get?_push_of_some _ u)⟩
end
end
open PySem.Spec L2
/-- the tuple's items with their places -/
def IteM (K : PySem.W.Frag) (a : Addr) : L2.It :=
  ⟨fun n H => ∃ (ys : List V) (y : V), SqT K H a ys ∧ ys[n]? = some y, fun n H v H' => ∃ T y, v = .ref T ∧ H T = none ∧ H' = upd H T (.tup [.int (n : Nat), y]) ∧ ∀ ys, SqT K H a ys → ys[n]? = some y, fun n H => ∃ ys : List V, SqT K H a ys ∧ ys.length ≤ n⟩
theorem turn_num {P : Program} {w : World} {K : PySem.W.Frag} {elts : List Expr} {kk : Nat} {tpos : Pos} (a z m : Addr) :
    Turn P w K (.Tuple elts kk tpos) (IteM K a) [z, m] z (fun n h => (∃ last, IsEnum h z m ((n : Nat) : Int) last) ∧ h.IsTupleIter m a n ∧ z ≠ m ∧ a ≠ m ∧ a ≠ z) where
  mem := by simp
  obj := fun n h st c hc => by
    obtain ⟨⟨last, ge⟩, ⟨o, go, _, dd⟩, _⟩ := st
    simp only [List.mem_cons, List.not_mem_nil, or_false] at hc
    rcases hc with q | q <;> rw [q]
    · exact ⟨_, ge, fun v q => nomatch q⟩
    · exact ⟨o, go, fun v q => by rw [dd] at q; cases q⟩
  keep := fun n h h' st k => let ⟨⟨last, ge⟩, gi, ne⟩ := st; ⟨⟨last, k z (by simp) _ ge⟩, gi.at fun o q => k m (by simp) o q, ne⟩
  item := by
    intro X hP hw hK hc n pins s σ H E I free st go
    subst hP hw hK
    obtain ⟨⟨last, ge⟩, gi, zm, am, az⟩ := st
    obtain ⟨ys, y, qy, hy⟩ := go
    obtain ⟨vs, rv, p, _⟩ := I.tuple qy
    obtain ⟨v, hv, r⟩ := rv.get hy
    have zl : z < s.heap.objs.size := Heap.lt_size ge
    have ml : m < s.heap.objs.size := by obtain ⟨_, q, _⟩ := gi; exact Heap.lt_size q
    refine num_item (inner_tuple (xs := vs.toArray) am) ge ⟨gi, p⟩ (x := v) (by simpa using hv) zm az.symm fun h' o' a1 new more kept => ?_
    refine ⟨_, rfl, wpAny_letOwnedTupleGo_enum (s := { s with heap := h', toks := s.toks + 1 }) o' fun h2 z2 sb => ?_⟩
    have new2 : h2.get? s.heap.objs.size = some { cls := .type "tuple", data := .seq #[.int n s.toks, v] } := (sb.2 _ (Nat.ne_of_gt zl)).trans new
    have obj2 : ObjOk X.prog X.w (upd H s.heap.objs.size (.tup [.int (n : Nat), y])) h2 s.heap.objs.size (.tup [.int (n : Nat), y]) := ⟨by show 2 ≤ sizeLine; decide, [.int n s.toks, v], .cons ⟨_, rfl⟩ (.cons r .nil), ⟨_, new2, rfl, _, rfl⟩⟩
    have I1 : Inv X pins σ (upd H s.heap.objs.size (.tup [.int (n : Nat), y])) { s with heap := h2, toks := s.toks + 1 } := I.turnedNew (ch := [z, m]) (fun c o nc u => (sb.2 c (fun e' => nc (by simp [e']))).trans (kept c o (fun e' => nc (by simp [e'])) (fun e' => nc (by simp [e'])) u)) free (Nat.le_refl _) obj2
    refine ⟨.ref s.heap.objs.size, _, I1, rfl, ⟨_, y, rfl, I.hok.fresh (Nat.le_refl _), rfl, fun l hl => by rw [I.tuple_inj hl qy]; exact hy⟩, ⟨⟨v, ?_⟩, a1.1.at fun o u => (sb.2 m zm.symm).trans u, zm, am, az⟩, fun c hcm => ?_⟩
    · have e1 : ((n + 1 : Nat) : Int) = (n : Int) + 1 := by omega
      rw [e1]; exact z2
    · have lt : c < s.heap.objs.size := by
        simp only [List.mem_cons, List.not_mem_nil, or_false] at hcm
        rcases hcm with e | e <;> rw [e] <;> assumption
      rw [upd_ne (Nat.ne_of_lt lt)]; exact (free c hcm).1
  done := by
    intro X hP hw hK hc n pins s σ H E I free st over
    subst hP hw hK
    obtain ⟨⟨last, ge⟩, gi, zm, am, az⟩ := st
    obtain ⟨ys, qy, hend⟩ := over
    obtain ⟨vs, rv, p, _⟩ := I.tuple qy
    have n1 := rv.length
    exact num_end (I.ok.hd hc) (inner_tuple (xs := vs.toArray) am) ge ⟨gi, p⟩ (by simp; omega) fun h' kept => ⟨rfl, I.turnedL (t' := s.toks) (ch := [z, m]) (fun c o nc e => kept c o (fun e' => nc (by simp [e'])) e) free⟩
  self := fun A n s Q E st h => let ⟨⟨_, ge⟩, _⟩ := st; wpAny_pyIter_enum ge h
def iEnumM (K : PySem.W.Frag) (ta : TA) : TI := fun σ H R => ta σ H fun vs H1 => ∃ a, vs = [.ref a] ∧ ((∃ xs, SqL K H1 a xs ∧ R (Ite K a) H1) ∨ (∃ xs, SqT K H1 a xs ∧ R (IteM K a) H1))
theorem pi_num {X : Cx} {e : Expr} {ta : TA} {p pos tpos : Pos} {elts : List Expr} {kk : Nat} (hg : Gl X "enumerate") (hm : X.mg "enumerate" = none) (ha : PA X [e] ta) (hs : starEach [e] X.env = [(false, eval e X.env)] := by rfl) : PI X (.Tuple elts kk tpos) (.Call (.Name "enumerate" p) [e] [] pos) (iEnumM X.K ta) := by
  refine ⟨fun pins s σ H R I h => Call_ (ld_blt I hg hm boot_enumerate (PyProof.Rows.callWith_type1 (thn (ha.run pos pins s σ H _ I h) fun us s1 ⟨vs, H1, I1, r1, q1⟩ => ?_) hs rfl))⟩
  obtain ⟨a, ex, q1⟩ := q1
  subst ex
  cases r1 with
  | cons r t =>
    cases t; cases r
    have lows : ∀ c, c ∈ [s1.heap.objs.size + 1, s1.heap.objs.size] → FpOk X pins H1 c := fun c hcm => by
      simp only [List.mem_cons, List.not_mem_nil, or_false] at hcm
      have le : s1.heap.objs.size ≤ c := by omega
      exact I1.fpOk le (I1.hok.fresh le)
    rcases q1 with ⟨xs, qx, q⟩ | ⟨xs, qx, q⟩
    · obtain ⟨its, rv, p1, _⟩ := I1.list qx
      refine call_enumerate_list p1.isList fun h' a1 a2 _ a3 => wpAny_pyIter_enum a1 ?_
      exact ⟨s1.heap.objs.size + 1, [s1.heap.objs.size + 1, s1.heap.objs.size], _, _, H1, rfl, I1.kept (t' := s1.toks) a3, turn_enum a (s1.heap.objs.size + 1) s1.heap.objs.size, ⟨⟨.none, a1⟩, a2, Nat.succ_ne_self _⟩, lows, q⟩
    · obtain ⟨its, rv, p1, _⟩ := I1.tuple qx
      have l2 : a < s1.heap.objs.size := by obtain ⟨o2, e2, _⟩ := id p1; exact Heap.lt_size e2
      refine call_num (show s1.heap.IsTuple a its.toArray from p1) fun h' a1 a2 a3 => wpAny_pyIter_enum a1 ?_
      exact ⟨s1.heap.objs.size + 1, [s1.heap.objs.size + 1, s1.heap.objs.size], _, _, H1, rfl, I1.kept (t' := s1.toks) a3, turn_num a (s1.heap.objs.size + 1) s1.heap.objs.size, ⟨⟨.none, a1⟩, a2, Nat.succ_ne_self _, Nat.ne_of_lt l2, Nat.ne_of_lt (Nat.lt_succ_of_lt l2)⟩, lows, q⟩
end Mp
set_option maxHeartbeats 4000000
namespace Mp
open PySem L2
variable [TabsW] [GdW]
/-- J goes through ds, while what was tracked at H1 outside S stands -/
def Goes (K : PySem.W.Frag) (M S : AS) (H1 : Hp) (J : L2.It) (ds : List D) : Prop := ∃ (Gd : Hp → Prop) (Y : Nat → Hp → V → Hp → Prop), Walk J ds.length Gd Y ∧ (∀ H', Stp S H1 H' → Gd H') ∧
  ∀ i H x H' (M' : AS), i < ds.length → Stp S H1 H → (∀ a, M' a → (M a ∨ ¬ Lv H1 a) ∧ Lv H a) → Y i H x H' → Stp NoA H H' ∧ ∃ d, ds[i]? = some d ∧ Rep K H' M' d x
theorem Goes.weak {K : PySem.W.Frag} {M S S' : AS} {H1 : Hp} {J : L2.It} {ds : List D} (g : Goes K M S H1 J ds) (h : ∀ a, S' a → S a) : Goes K M S' H1 J ds := by
  obtain ⟨Gd, Y, wk, h1, h2⟩ := g
  exact ⟨Gd, Y, wk, fun H' s => h1 H' (s.weak h), fun i H x H' M' hi s hM y => h2 i H x H' M' hi (s.weak h) hM y⟩
theorem PI.by_ {X : Cx} {tg e : Expr} {t t' : TI} (h : PI X tg e t) (i : ∀ σ H Q, t' σ H Q → t σ H Q) : PI X tg e t' := ⟨fun pins s σ H Q I q => h.run pins s σ H Q I (i σ H Q q)⟩
theorem PI.or {X : Cx} {tg e : Expr} {t t' : TI} (h : PI X tg e t) (h' : PI X tg e t') : PI X tg e (fun σ H Q => t σ H Q ∨ t' σ H Q) := ⟨fun pins s σ H Q I q => q.elim (fun q => h.run pins s σ H Q I q) fun q => h'.run pins s σ H Q I q⟩
def tIi (G : Ctx) (W : WX) (K : PySem.W.Frag) (it : IT) : TI := fun σ H R => ∃ H0 M0 A env, EnvR K H0 M0 A env σ H ∧ Sat K H0 M0 A W (evi G it env) env σ H fun ds e1 H1 => ∀ J, Goes K (MM M0 e1 σ) (MM M0 e1 σ) H1 J ds → R J H1
theorem iota_len : ∀ (n : Nat) (lo : Int), (iotaD lo n).length = n
  | 0, lo => rfl
  | n + 1, lo => by unfold iotaD; simp [iota_len n (lo + 1)]
theorem iota_get : ∀ (n i : Nat) (lo : Int), i < n → (iotaD lo n)[i]? = some (.int (lo + i))
  | 0, i, lo, h => absurd h (Nat.not_lt_zero _)
  | n + 1, 0, lo, h => by unfold iotaD; simp
  | n + 1, i + 1, lo, h => by
    unfold iotaD
    rw [List.getElem?_cons_succ, iota_get n i (lo + 1) (by omega)]
    congr 2
    omega
section
variable {K : PySem.W.Frag} {M S : AS} {H1 : Hp}
/-- an item, later, with other things set apart -/
theorem item_on {H : Hp} {M' : AS} {d : D} {x : V} (hS : ∀ x, S x → M x) (s : Stp S H1 H) (hM : ∀ a, M' a → (M a ∨ ¬ Lv H1 a) ∧ Lv H a) (r : Rep K H1 M d x) : Rep K H M' d x := by
  have r1 : Rep K H1 (fun a => M a ∨ M' a) d x := Rep.grow (fun a z => z.elim .inl fun q => (hM a q).1) d x r
  exact Rep.stp (s.weak fun a z => .inl (hS a z)) (fun a z => .inr z) d x r1
theorem goes_range {lo : Int} {n : Nat} : Goes K M S H1 (Itr lo n) (iotaD lo n) := by
  refine ⟨fun _ => True, YFn fun i => .int (lo + i), by rw [iota_len]; exact walk_range, fun _ _ => trivial, fun i H x H' M' hi _ _ y => ?_⟩
  obtain ⟨rfl, rfl⟩ := y
  rw [iota_len] at hi
  exact ⟨Stp.refl, _, iota_get n i lo hi, rep_int _⟩
theorem goes_list {a : Addr} {xs : List V} {ds : List D} (hS : ∀ x, S x → M x) (h : RdK K H1 M a xs) (r : RepL K H1 M ds xs) : Goes K M S H1 (Itl K a) ds := by
  refine ⟨fun H => SqL K H a xs, YAt xs, by rw [r.length]; exact walk_list, fun H' s => (h.stp (s.weak hS) (fun _ z => z)).l, fun i H x H' M' hi s hM y => ?_⟩
  obtain ⟨rfl, e⟩ := y
  obtain ⟨d, d1, d2⟩ := r.get' e
  exact ⟨Stp.refl, d, d1, item_on hS s hM d2⟩
theorem goes_tup {a : Addr} {xs : List V} {ds : List D} (hS : ∀ x, S x → M x) (nm : ¬ M a) (h : Rd H1 a (.tup xs)) (r : RepL K H1 M ds xs) : Goes K M S H1 (Itt K a) ds := by
  refine ⟨fun H => SqT K H a xs, YAt xs, by rw [r.length]; exact walk_tup, fun H' s => Rd.t (Rd.stp s (fun z => nm (hS a z)) nt_tup h), fun i H x H' M' hi s hM y => ?_⟩
  obtain ⟨rfl, e⟩ := y
  obtain ⟨d, d1, d2⟩ := r.get' e
  exact ⟨Stp.refl, d, d1, item_on hS s hM d2⟩
theorem enum_len : ∀ (ds : List D) (k : Int), (enumD k ds).length = ds.length
  | [], k => rfl
  | d :: ds, k => by unfold enumD; simp [enum_len ds (k + 1)]
theorem enum_get : ∀ (ds : List D) (k : Int) (i : Nat) (d : D), ds[i]? = some d → (enumD k ds)[i]? = some (.tup [.int (k + i), d])
  | [], k, i, d, h => by simp at h
  | e :: ds, k, 0, d, h => by unfold enumD; simp at h; subst h; simp
  | e :: ds, k, i + 1, d, h => by
    unfold enumD
    rw [List.getElem?_cons_succ, enum_get ds (k + 1) i d (by simpa using h)]
    have : k + 1 + (i : Int) = k + ((i + 1 : Nat) : Int) := by omega
    rw [this]
theorem pair_new {H H' : Hp} {T : Addr} {x y : V} {d e : D} (hM : ∀ a, M a → Lv H a) (hT : H T = none) (eH : H' = upd H T (.tup [x, y])) (rx : Rep K H M d x) (ry : Rep K H M e y) : Stp NoA H H' ∧ Rep K H' M (.tup [d, e]) (.ref T) := by
  subst eH
  exact ⟨Stp.new hT, rep_newT hT (fun z => (hM T z).ne hT) (RepL.cons rx (RepL.cons ry RepL.nil))⟩
theorem goes_enum {a : Addr} {xs : List V} {ds : List D} (hS : ∀ x, S x → M x) (h : RdK K H1 M a xs) (r : RepL K H1 M ds xs) : Goes K M S H1 (Ite K a) (enumD 0 ds) := by
  refine ⟨fun H => SqL K H a xs, YPair (fun i => some (.int (i : Nat))) (fun i => xs[i]?), by rw [enum_len, r.length]; exact walk_enum, fun H' s => (h.stp (s.weak hS) (fun _ z => z)).l, fun i H v H' M' hi s hM y => ?_⟩
  obtain ⟨T, x, y, rfl, hT, eH, e1, e2⟩ := y
  cases e1
  obtain ⟨d, d1, d2⟩ := r.get' e2
  obtain ⟨s1, r1⟩ := pair_new (d := .int (i : Nat)) (x := .int (i : Nat)) (fun a z => (hM a z).2) hT eH (rep_int _) (item_on hS s hM d2)
  exact ⟨s1, _, by rw [enum_get ds 0 i d d1, Int.zero_add], r1⟩
theorem walk_num {a : Addr} {xs : List V} : Walk (IteM K a) xs.length (fun H => SqT K H a xs) (YPair (fun i => some (.int (i : Nat))) (fun i => xs[i]?)) := by
  refine ⟨fun i _ hi q => ⟨xs, xs[i], q, List.getElem?_eq_getElem hi⟩, fun _ q => ⟨xs, q, Nat.le_refl _⟩, fun i H v H' _ q y => ?_⟩
  obtain ⟨T, x, e1, e2, e3, e4⟩ := y
  exact ⟨T, .int (i : Nat), x, e1, e2, e3, rfl, e4 xs q⟩
theorem goes_num {a : Addr} {xs : List V} {ds : List D} (hS : ∀ x, S x → M x) (nm : ¬ M a) (h : Rd H1 a (.tup xs)) (r : RepL K H1 M ds xs) : Goes K M S H1 (IteM K a) (enumD 0 ds) := by
  refine ⟨fun H => SqT K H a xs, YPair (fun i => some (.int (i : Nat))) (fun i => xs[i]?), by rw [enum_len, r.length]; exact walk_num, fun H' s => Rd.t (Rd.stp (s.weak hS) nm nt_tup h), fun i H v H' M' hi s hM y => ?_⟩
  obtain ⟨T, x, y, rfl, hT, eH, e1, e2⟩ := y
  cases e1
  obtain ⟨d, d1, d2⟩ := r.get' e2
  obtain ⟨s1, r1⟩ := pair_new (d := .int (i : Nat)) (x := .int (i : Nat)) (fun a z => (hM a z).2) hT eH (rep_int _) (item_on hS s hM d2)
  exact ⟨s1, _, by rw [enum_get ds 0 i d d1, Int.zero_add], r1⟩
end
section
variable {X : Cx} {G : Ctx} {W : WX} {tg : Expr}
/-- one operand that is kept, then what follows -/
theorem take_read {K : PySem.W.Frag} {H0 H : Hp} {M0 A : AS} {env : Env} {σ : L2.St} {i : IR} {α : Type} {f : D → Env → R α} {P : α → Env → Hp → Prop} (E : EnvR K H0 M0 A env σ H) (q : Sat K H0 M0 A W ((ev G i env).take.bind f) env σ H P)
    {Q : VK} (k : ∀ d v e1 H1, EnvR K H0 M0 A e1 σ H1 → Rep K H1 (MM M0 e1 σ) d v → Stp (WW A env σ) H H1 → Sub σ env e1 → Sat K H0 M0 A W (f d e1) e1 σ H1 P → Q v H1) : tI G W K i σ H Q := by
  unfold R.take at q
  rw [R.bind_assoc] at q
  refine ⟨H0, M0, A, env, E, (Sat.bind q).mono fun o e1 H1 _ s1 u1 E1 h1 x hx => ?_⟩
  cases e : takeO e1 o with
  | none => rw [e] at h1; exact h1.elim
  | some p =>
    obtain ⟨d, e2⟩ := p
    rw [e] at h1
    obtain ⟨E2, rd, u2⟩ := E1.take hx e
    have h2 : Sat K H0 M0 A W (f d e2) e1 σ H1 P := h1
    exact k d x e2 H1 E2 rd s1 (u1.trans u2) (h2.sub u2)
def iSeq (K : PySem.W.Frag) (tl : TE) : TI := fun σ H R => tl σ H fun x H1 => ∃ a, x = .ref a ∧ (((∃ xs, SqL K H1 a xs) ∧ R (Itl K a) H1) ∨ ((∃ xs, SqT K H1 a xs) ∧ R (Itt K a) H1))
theorem pi_seq {l : Expr} {tl : TE} (hl : PE X l tl) : PI X tg l (iSeq X.K tl) := by
  refine ⟨fun pins s σ H R I h => thn (hl.run pins s σ H _ I h) fun w s1 got => ?_⟩
  obtain ⟨x, H1, J, rx, a, rfl, q⟩ := got
  have ew : w = Value.ref a := rx
  rw [ew]
  have new : ∀ b ∈ [s1.heap.objs.size], FpOk X pins H1 b := fun b hb => by
    have e : b = s1.heap.objs.size := by simpa using hb
    rw [e]
    exact J.fpOk (Nat.le_refl _) (J.hok.fresh (Nat.le_refl _))
  rcases q with ⟨⟨xs, hq⟩, q⟩ | ⟨⟨xs, hq⟩, q⟩
  · obtain ⟨its, _, p, _⟩ := J.list hq
    exact wpAny_pyIter_list p.isList ⟨_, [_], _, _, H1, rfl, J.kept (t' := s1.toks) (fun _ _ e => Heap.get?_push_of_some _ e), turn_list a _, ⟨_, Heap.get?_push_size _ rfl, rfl, rfl⟩, new, q⟩
  · obtain ⟨its, _, p, _⟩ := J.tuple hq
    exact wpAny_pyIter_tuple (show s1.heap.IsTuple a its.toArray from p) ⟨_, [_], _, _, H1, rfl, J.kept (t' := s1.toks) (fun _ _ e => Heap.get?_push_of_some _ e), turn_tuple a _, ⟨_, Heap.get?_push_size _ rfl, rfl, rfl⟩, new, q⟩
theorem i_seq {l : Expr} {i : IR} (hl : PE X l (tI G W X.K i)) : PI X tg l (tIi G W X.K (.seq i)) := PI.by_ (pi_seq hl) fun σ H R q => by
  obtain ⟨H0, M0, A, env, E, q⟩ := q
  rw [evi] at q
  refine take_read E q fun d v e1 H1 E1 rd s1 u1 h1 => ?_
  cases d with
  | lst ds =>
    unfold Rep at rd
    obtain ⟨a, xs, rfl, h, r⟩ := rd
    exact ⟨a, rfl, .inl ⟨⟨xs, h.l⟩, h1 H1 Stp.refl Sub.refl E1 _ (goes_list (fun _ z => z) h r)⟩⟩
  | tup ds =>
    unfold Rep at rd
    obtain ⟨a, xs, rfl, nm, h, r⟩ := rd
    exact ⟨a, rfl, .inr ⟨⟨xs, Rd.t h⟩, h1 H1 Stp.refl Sub.refl E1 _ (goes_tup (fun _ z => z) nm h r)⟩⟩
  | _ => exact h1.elim
theorem rd_read {K : PySem.W.Frag} {H0 H : Hp} {M0 A : AS} {env : Env} {σ : L2.St} {i : IR} {α : Type} {f : D → Env → R α} {P : α → Env → Hp → Prop} (E : EnvR K H0 M0 A env σ H) (q : Sat K H0 M0 A W ((ev G i env).rd.bind f) env σ H P)
    {Q : VK} (k : ∀ d v e1 H1, EnvR K H0 M0 A e1 σ H1 → RepT K H1 (MM M0 e1 σ) d v → Stp (WW A env σ) H H1 → Sub σ env e1 → Sat K H0 M0 A W (f d e1) e1 σ H1 P → Q v H1) : tI G W K i σ H Q := by
  unfold R.rd at q
  rw [R.bind_assoc] at q
  refine ⟨H0, M0, A, env, E, (Sat.bind q).mono fun o e1 H1 _ s1 u1 E1 h1 x hx => ?_⟩
  cases e : rdO e1 o with
  | none => rw [e] at h1; exact h1.elim
  | some d =>
    rw [e] at h1
    exact k d x e1 H1 E1 (hx.rdT E1 e) s1 u1 h1
theorem i_rng1 {a : Expr} {i : IR} {p pos : Pos} (hg : Gl X "range") (hm : X.mg "range" = none) (ha : PE X a (tI G W X.K i)) (hs : starB a = false) : PI X tg (.Call (.Name "range" p) [a] [] pos) (tIi G W X.K (.rng1 i)) :=
  PI.by_ (pi_range1 hg hm (pa_cons ha pa_nil (star_cons hs)) (star_cons hs)) fun σ H R q => by
    obtain ⟨H0, M0, A, env, E, q⟩ := q
    rw [evi] at q
    refine rd_read E q fun d v e1 H1 E1 rd s1 u1 h1 => ?_
    cases d with
    | int j =>
      rw [rd.int]
      have h1 : Sat X.K H0 M0 A W (if -1000000 ≤ j ∧ j ≤ 1000000 then Mp.R.ok (iotaD 0 j.toNat) e1 else .bad) e1 σ H1 (fun ds e1 H1 => ∀ J, Goes X.K (MM M0 e1 σ) (MM M0 e1 σ) H1 J ds → R J H1) := h1
      by_cases hj : -1000000 ≤ j ∧ j ≤ 1000000
      · rw [if_pos hj] at h1
        exact ⟨j, rfl, by omega, by omega, h1 H1 Stp.refl Sub.refl E1 _ goes_range⟩
      · rw [if_neg hj] at h1; exact h1.elim
    | _ => exact h1.elim
theorem i_enum {e : Expr} {i : IR} {p pos tpos : Pos} {elts : List Expr} {kk : Nat} (hg : Gl X "enumerate") (hm : X.mg "enumerate" = none) (ha : PE X e (tI G W X.K i)) (hs : starB e = false) : PI X (.Tuple elts kk tpos) (.Call (.Name "enumerate" p) [e] [] pos) (tIi G W X.K (.enum i)) :=
  PI.by_ (pi_num hg hm (pa_cons ha pa_nil (star_cons hs)) (star_cons hs)) fun σ H R q => by
    obtain ⟨H0, M0, A, env, E, q⟩ := q
    rw [evi] at q
    refine take_read E q fun d v e1 H1 E1 rd s1 u1 h1 => ?_
    cases d with
    | lst ds =>
      unfold Rep at rd
      obtain ⟨a, xs, rfl, h, r⟩ := rd
      exact ⟨a, rfl, .inl ⟨xs, h.l, h1 H1 Stp.refl Sub.refl E1 _ (goes_enum (fun _ z => z) h r)⟩⟩
    | tup ds =>
      unfold Rep at rd
      obtain ⟨a, xs, rfl, nm, h, r⟩ := rd
      exact ⟨a, rfl, .inr ⟨xs, Rd.t h, h1 H1 Stp.refl Sub.refl E1 _ (goes_num (fun _ z => z) nm h r)⟩⟩
    | _ => exact h1.elim
end
end Mp
set_option maxHeartbeats 4000000
namespace Mp
open PySem L2
variable [TabsW] [GdW]
section
variable {K : PySem.W.Frag} {H0 H H' : Hp} {M0 A : AS} {env env' : Env} {σ σ' : L2.St}
/-- some cells are dropped, some hold data anew -/
theorem EnvR.re (E : EnvR K H0 M0 A env σ H) (hl : env'.length = σ'.length) (h : ∀ (j : Nat) (c : Cell), env'[j]? = some (some c) → (env[j]? = some (some c) ∧ σ'[j]? = σ[j]?) ∨ ∃ d v, c = .dat d ∧ σ'[j]? = some (some v) ∧ Rep K H (MM M0 env σ) d v) :
    EnvR K H0 M0 A env' σ' H ∧ ∀ a, MutAt env' σ' a → MutAt env σ a := by
  have sub : ∀ a, MutAt env' σ' a → MutAt env σ a := fun a ⟨j, ds, e1, e2⟩ => by
    rcases h j _ e1 with ⟨a1, a2⟩ | ⟨d, v, z, _⟩
    · exact ⟨j, ds, a1, a2 ▸ e2⟩
    · cases z
  have subM : ∀ a, MM M0 env' σ' a → MM M0 env σ a := fun a z => z.elim .inl fun q => .inr (sub a q)
  refine ⟨⟨hl, E.old, E.alive, E.tb, E.m0, E.aM, E.a1, fun j d e1 => ?_, fun j ds e1 => ?_, fun j ds e1 => ?_, fun j k b ds es e1 e2 e3 e4 => ?_, fun j k ds es e1 e2 => ?_, fun j C ns ds e1 => ?_⟩, sub⟩
  · rcases h j _ e1 with ⟨a1, a2⟩ | ⟨d', v, z, s, r⟩
    · obtain ⟨v, b1, b2⟩ := E.dat j d a1
      exact ⟨v, by rw [a2]; exact b1, Rep.stp Stp.refl subM d v b2⟩
    · cases z
      exact ⟨v, s, Rep.stp Stp.refl subM d v r⟩
  · rcases h j _ e1 with ⟨a1, a2⟩ | ⟨d', v, z, s, r⟩
    · obtain ⟨a, xs, b1, b2, b3, b4⟩ := E.own j ds a1
      exact ⟨a, xs, by rw [a2]; exact b1, b2, RepL.stp Stp.refl subM ds xs b3, b4⟩
    · cases z
  · rcases h j _ e1 with ⟨a1, a2⟩ | ⟨d', v, z, s, r⟩
    · obtain ⟨a, xs, b1, b2, b3, b4⟩ := E.io j ds a1
      exact ⟨a, xs, by rw [a2]; exact b1, b2, b3, RepL.stp Stp.refl subM ds xs b4⟩
    · cases z
  · rcases h j _ e1 with ⟨a1, a2⟩ | ⟨d', v, z, s, r⟩
    · rcases h k _ e2 with ⟨b1, b2⟩ | ⟨d', v, z, s, r⟩
      · exact E.inj j k b ds es a1 b1 (a2 ▸ e3) (b2 ▸ e4)
      · cases z
    · cases z
  · rcases h j _ e1 with ⟨a1, a2⟩ | ⟨d', v, z, s, r⟩
    · rcases h k _ e2 with ⟨b1, b2⟩ | ⟨d', v, z, s, r⟩
      · exact E.io1 j k ds es a1 b1
      · cases z
    · cases z
  · rcases h j _ e1 with ⟨a1, a2⟩ | ⟨d', v, z, s, r⟩
    · exact E.slf j C ns ds a1
    · cases z
theorem wipeE_len : ∀ (is : List Nat), (wipeE env is).length = env.length
  | [] => rfl
  | i :: is => by unfold wipeE; rw [List.length_set, wipeE_len is]
theorem backE_len {old : Env} : ∀ (is : List Nat), (backE old env is).length = env.length
  | [] => rfl
  | i :: is => by unfold backE; rw [List.length_set, backE_len is]
theorem wipeE_get {j : Nat} {c : Cell} : ∀ {is : List Nat}, (wipeE env is)[j]? = some (some c) → j ∉ is ∧ env[j]? = some (some c)
  | [], h => ⟨by simp, h⟩
  | i :: is, h => by
    unfold wipeE at h
    by_cases hj : i = j
    · subst hj
      by_cases hl : i < (wipeE env is).length
      · rw [List.getElem?_set_self hl] at h; cases h
      · rw [List.getElem?_eq_none (by rw [List.length_set]; omega)] at h; cases h
    · rw [List.getElem?_set_ne hj] at h
      obtain ⟨a, b⟩ := wipeE_get h
      exact ⟨by simp only [List.mem_cons, not_or]; exact ⟨fun z => hj z.symm, a⟩, b⟩
theorem wipeE_out {j : Nat} : ∀ {is : List Nat}, j ∉ is → (wipeE env is)[j]? = env[j]?
  | [], _ => rfl
  | i :: is, h => by
    simp only [List.mem_cons, not_or] at h
    unfold wipeE
    rw [List.getElem?_set_ne (fun z => h.1 z.symm), wipeE_out h.2]
theorem wipe_out {j : Nat} : ∀ {is : List Nat}, j ∉ is → (wipe σ is)[j]? = σ[j]?
  | [], _ => rfl
  | i :: is, h => by
    simp only [List.mem_cons, not_or] at h
    unfold wipe
    rw [List.getElem?_set_ne (fun z => h.1 z.symm), wipe_out h.2]
theorem wipe_in {j : Nat} : ∀ {is : List Nat}, j ∈ is → j < σ.length → (wipe σ is)[j]? = some none
  | i :: is, h, hl => by
    unfold wipe
    by_cases hj : i = j
    · subst hj
      rw [List.getElem?_set_self (by rw [wipe_length]; exact hl)]
    · rw [List.getElem?_set_ne hj]
      rcases List.mem_cons.mp h with e | h
      · exact absurd e.symm hj
      · exact wipe_in h hl
theorem wipe_eq {is : List Nat} (hl : σ.length = σ'.length) (h : ∀ j, j ∉ is → σ'[j]? = σ[j]?) : wipe σ' is = wipe σ is := by
  apply List.ext_getElem?
  intro j
  by_cases hj : j ∈ is
  · by_cases hlt : j < σ.length
    · rw [wipe_in hj hlt, wipe_in hj (by omega)]
    · rw [List.getElem?_eq_none (by rw [wipe_length]; omega), List.getElem?_eq_none (by rw [wipe_length]; omega)]
  · rw [wipe_out hj, wipe_out hj, h j hj]
theorem backE_get {old : Env} {j : Nat} {c : Cell} : ∀ {is : List Nat}, (backE old env is)[j]? = some (some c) → (j ∉ is ∧ env[j]? = some (some c)) ∨ (j ∈ is ∧ old[j]? = some (some c))
  | [], h => .inl ⟨by simp, h⟩
  | i :: is, h => by
    unfold backE at h
    by_cases hj : i = j
    · subst hj
      by_cases hl : i < (backE old env is).length
      · rw [List.getElem?_set_self hl] at h
        refine .inr ⟨by simp, ?_⟩
        cases e : old[i]? with
        | none => rw [e] at h; cases h
        | some o => rw [e] at h; cases h; rfl
      · rw [List.getElem?_eq_none (by rw [List.length_set]; omega)] at h; cases h
    · rw [List.getElem?_set_ne hj] at h
      rcases backE_get h with ⟨a, b⟩ | ⟨a, b⟩
      · exact .inl ⟨by simp only [List.mem_cons, not_or]; exact ⟨fun z => hj z.symm, a⟩, b⟩
      · exact .inr ⟨List.mem_cons_of_mem _ a, b⟩
theorem backE_in {old : Env} {j : Nat} {c : Cell} : ∀ {is : List Nat}, j ∈ is → j < env.length → old[j]? = some (some c) → (backE old env is)[j]? = some (some c)
  | i :: is, h, hl, e => by
    unfold backE
    by_cases hj : i = j
    · subst hj
      rw [List.getElem?_set_self (by rw [backE_len]; exact hl), e] <;> rfl
    · rw [List.getElem?_set_ne hj]
      rcases List.mem_cons.mp h with z | h
      · exact absurd z.symm hj
      · exact backE_in h hl e
theorem backE_out {old : Env} {j : Nat} : ∀ {is : List Nat}, j ∉ is → (backE old env is)[j]? = env[j]?
  | [], _ => rfl
  | i :: is, h => by
    simp only [List.mem_cons, not_or] at h
    unfold backE
    rw [List.getElem?_set_ne (fun z => h.1 z.symm), backE_out h.2]
/-- one slot holds data anew -/
theorem EnvR.setDat (E : EnvR K H0 M0 A env σ H) {i : Nat} {d : D} {v : V} (hi : i < env.length) (r : Rep K H (MM M0 env σ) d v) : EnvR K H0 M0 A (env.set i (some (.dat d))) (σ.set i (some v)) H ∧ ∀ a, MutAt (env.set i (some (.dat d))) (σ.set i (some v)) a → MutAt env σ a := by
  refine E.re (by rw [List.length_set, List.length_set]; exact E.len) fun j c h => ?_
  by_cases hj : i = j
  · subst hj
    rw [List.getElem?_set_self hi] at h
    cases h
    exact .inr ⟨d, v, rfl, by rw [List.getElem?_set_self (by rw [← E.len]; exact hi)], r⟩
  · rw [List.getElem?_set_ne hj] at h
    exact .inl ⟨h, by rw [List.getElem?_set_ne hj]⟩
theorem free_lt {i : Nat} (h : freeB env i = true) : i < env.length := by
  unfold freeB at h
  cases e : env[i]? with
  | none => rw [e] at h; cases h
  | some o => exact (List.getElem?_eq_some_iff.mp e).1
def gNames : List Nat → TGs
  | [] => gNil
  | i :: is => gCons (gName i) (gNames is)
/-- a tuple or a list is taken apart -/
def gTL (K : PySem.W.Frag) (n : Nat) (t : TGs) : TG := fun v σ H Q => gTup K n t v σ H Q ∨ gLst K n t v σ H Q
theorem pg_tl {X : Cx} {es : List Expr} {k : Nat} {t : TGs} {n : Nat} {pos : Pos} (hc : X.calm = true) (h : PGs X es t)
    (hn : (assignEach es X.env).length = n := by rfl) (hst : (assignEach es X.env).findIdx? (·.1) = none := by rfl) : PG X (.Tuple es k pos) (gTL X.K n t) := ⟨fun pins s σ H v u Q I r hw => hw.elim (fun q => (pg_tup hc h hn hst).run pins s σ H v u Q I r q) fun q => (pg_lst hc h hn hst).run pins s σ H v u Q I r q⟩
def gT (K : PySem.W.Frag) : Tgt → TG
  | .name i => gName i
  | .tup is => gTL K is.length (gNames is)
theorem names_read : ∀ (is : List Nat) (ds : List D) (xs : List V) (env : Env) (σ : L2.St) (P : L2.St → Hp → Prop), EnvR K H0 M0 A env σ H → is.all (freeB env) = true → ds.length = is.length → RepL K H (MM M0 env σ) ds xs →
    (∀ σ', EnvR K H0 M0 A ((is.zip ds).foldl (fun e p => e.set p.1 (some (.dat p.2))) env) σ' H → (∀ a, MutAt ((is.zip ds).foldl (fun e p => e.set p.1 (some (.dat p.2))) env) σ' a → MutAt env σ a) → σ'.length = σ.length → (∀ j, j ∉ is → σ'[j]? = σ[j]?) → P σ' H) → gNames is xs σ H P
  | [], ds, xs, env, σ, P, E, hf, hl, r, k => by
    have : ds = [] := by cases ds <;> simp_all
    subst this
    unfold RepL at r
    exact ⟨r, k σ E (fun _ z => z) rfl fun _ _ => rfl⟩
  | i :: is, [], xs, env, σ, P, E, hf, hl, r, k => by simp at hl
  | i :: is, d :: ds, xs, env, σ, P, E, hf, hl, r, k => by
    unfold RepL at r
    obtain ⟨x, ys, rfl, r1, r2⟩ := r
    rw [List.all_cons, Bool.and_eq_true] at hf
    have hi := free_lt hf.1
    obtain ⟨E1, u1⟩ := E.setDat hi r1
    refine ⟨x, ys, rfl, ?_⟩
    have hfree : is.all (freeB (env.set i (some (.dat d)))) = true := by
      rw [List.all_eq_true]
      intro j hj
      have := (List.all_eq_true.mp hf.2) j hj
      unfold freeB at this ⊢
      by_cases h : i = j
      · subst h; rw [List.getElem?_set_self hi]
      · rw [List.getElem?_set_ne h]; exact this
    refine names_read is ds ys (env.set i (some (.dat d))) (σ.set i (some x)) P E1 hfree (by simpa using hl) (RepL.stp Stp.refl (fun a z => z.elim .inl fun q => .inr (u1 a q)) ds ys r2) fun σ' E' u' l' o' => ?_
    refine k σ' E' (fun a z => u1 a (u' a z)) (by rw [l', List.length_set]) fun j hj => ?_
    simp only [List.mem_cons, not_or] at hj
    rw [o' j hj.2, List.getElem?_set_ne (fun z => hj.1 z.symm)]
theorem tgt_read {tg : Tgt} {d : D} {v : V} (E : EnvR K H0 M0 A env σ H) (hb : bindT tg d env = some env') (r : Rep K H (MM M0 env σ) d v) {P : L2.St → Hp → Prop}
    (k : ∀ σ', EnvR K H0 M0 A env' σ' H → (∀ a, MutAt env' σ' a → MutAt env σ a) → σ'.length = σ.length → (∀ j, j ∉ tgOwn tg → σ'[j]? = σ[j]?) → P σ' H) : gT K tg v σ H P := by
  cases tg with
  | name i =>
    unfold bindT at hb
    dsimp only at hb
    by_cases hf : freeB env i = true
    · rw [if_pos hf] at hb
      cases hb
      obtain ⟨E1, u1⟩ := E.setDat (free_lt hf) r
      refine k _ E1 u1 List.length_set fun j hj => ?_
      unfold tgOwn at hj
      rw [List.getElem?_set_ne (fun z => hj (by simp [z]))]
    · rw [if_neg hf] at hb; cases hb
  | tup is =>
    unfold bindT at hb
    dsimp only at hb
    cases d with
    | tup ds =>
      dsimp only at hb
      by_cases hc : ds.length = is.length ∧ is.all (freeB env) = true
      · rw [if_pos hc] at hb
        cases hb
        unfold Rep at r
        obtain ⟨a, xs, rfl, nm, h, rr⟩ := r
        exact .inl ⟨a, xs, rfl, Rd.t h, by rw [← rr.length]; exact hc.1, names_read is ds xs env σ P E hc.2 hc.1 rr k⟩
      · rw [if_neg hc] at hb; cases hb
    | lst ds =>
      dsimp only at hb
      by_cases hc : ds.length = is.length ∧ is.all (freeB env) = true
      · rw [if_pos hc] at hb
        cases hb
        unfold Rep at r
        obtain ⟨a, xs, rfl, h, rr⟩ := r
        exact .inr ⟨a, xs, rfl, h.l, by rw [← rr.length]; exact hc.1, names_read is ds xs env σ P E hc.2 hc.1 rr k⟩
      · rw [if_neg hc] at hb; cases hb
    | _ => cases hb
theorem foldl_out {j : Nat} : ∀ {is : List Nat} {ds : List D} {env : Env}, j ∉ is → ((is.zip ds).foldl (fun e p => e.set p.1 (some (Cell.dat p.2))) env)[j]? = env[j]?
  | [], ds, env, _ => rfl
  | i :: is, [], env, _ => rfl
  | i :: is, d :: ds, env, h => by
    simp only [List.mem_cons, not_or] at h
    show ((is.zip ds).foldl (fun e p => e.set p.1 (some (Cell.dat p.2))) (env.set i (some (Cell.dat d))))[j]? = env[j]?
    rw [foldl_out h.2, List.getElem?_set_ne (fun z => h.1 z.symm)]
theorem foldl_len : ∀ {is : List Nat} {ds : List D} {env : Env}, ((is.zip ds).foldl (fun e p => e.set p.1 (some (Cell.dat p.2))) env).length = env.length
  | [], ds, env => rfl
  | i :: is, [], env => rfl
  | i :: is, d :: ds, env => by
    show ((is.zip ds).foldl (fun e p => e.set p.1 (some (Cell.dat p.2))) (env.set i (some (Cell.dat d)))).length = env.length
    rw [foldl_len, List.length_set]
theorem bind_out {tg : Tgt} {d : D} {env env1 : Env} (h : bindT tg d env = some env1) : (∀ j, j ∉ tgOwn tg → env1[j]? = env[j]?) ∧ env1.length = env.length := by
  cases tg with
  | name i =>
    unfold bindT at h
    dsimp only at h
    by_cases hf : freeB env i = true
    · rw [if_pos hf] at h; cases h
      refine ⟨fun j hj => ?_, List.length_set⟩
      unfold tgOwn at hj
      rw [List.getElem?_set_ne (fun z => hj (by simp [z]))]
    · rw [if_neg hf] at h; cases h
  | tup is =>
    unfold bindT at h
    dsimp only at h
    cases d with
    | tup ds =>
      dsimp only at h
      by_cases hc : ds.length = is.length ∧ is.all (freeB env) = true
      · rw [if_pos hc] at h; cases h
        exact ⟨fun j hj => foldl_out hj, foldl_len⟩
      · rw [if_neg hc] at h; cases h
    | lst ds =>
      dsimp only at h
      by_cases hc : ds.length = is.length ∧ is.all (freeB env) = true
      · rw [if_pos hc] at h; cases h
        exact ⟨fun j hj => foldl_out hj, foldl_len⟩
      · rw [if_neg hc] at h; cases h
    | _ => cases h
end
end Mp
set_option maxHeartbeats 4000000
namespace Mp
open PySem L2
variable [TabsW] [GdW]
def wNo : WX := fun _ _ _ _ => False
section
variable {K : PySem.W.Frag} {H0 H H' : Hp} {M0 A : AS} {env env' : Env} {σ σ' : L2.St} {W W' : WX}
theorem Sat.noExc {α : Type} {r : R α} {P : α → Env → Hp → Prop} (h : Sat K H0 M0 A W (Mp.noExc r) env σ H P) : Sat K H0 M0 A W' r env σ H P := by
  cases r with
  | bad => exact h
  | exc C n d e => exact h.elim
  | ok o e => exact h
/-- one more address set apart: it is new -/
theorem EnvR.apart (E : EnvR K H0 M0 A env σ H) {p : Addr} {o : HO} (hp : H p = none) (ho : NT o := by first | exact nt_lst | exact nt_ins | exact nt_tup) : EnvR K H0 (fun a => M0 a ∨ a = p) A env σ (upd H p o) := by
  have E' := E.new (o := o) hp
  obtain ⟨n1, n2⟩ := E.fresh hp
  have g : ∀ x, MM (fun a => M0 a ∨ a = p) env σ x → MM M0 env σ x ∨ ¬ Lv H x := fun x z => by
    rcases z with (z | z) | z
    · exact .inl (.inl z)
    · exact .inr (by rw [z]; exact nn_of hp)
    · exact .inl (.inr z)
  have st : Stp (fun _ : Addr => False) H (upd H p o) := Stp.new hp
  refine ⟨E.len, E'.old, E'.alive, E'.tb, fun a h => ?_, fun a h => .inl (E.aM a h), E.a1, fun i d h => ?_, fun i ds h => ?_, fun i ds h => ?_, E.inj, E.io1, E.slf⟩
  · rcases h with h | h
    · exact E'.m0 a h
    · rw [h]; exact ⟨o, upd_same, ho⟩
  · obtain ⟨v, a1, a2⟩ := E.dat i d h
    exact ⟨v, a1, Rep.stp (Stp.new hp) (fun _ z => z) d v (Rep.grow g d v a2)⟩
  · obtain ⟨a, xs, a1, a2, a3, a4, a5⟩ := E.own i ds h
    refine ⟨a, xs, a1, by rw [upd_ne (ne_of_none a2 hp)]; exact a2, RepL.stp (Stp.new hp) (fun _ z => z) ds xs (RepL.grow g ds xs a3), fun z => ?_, a5⟩
    rcases z with z | z
    · exact a4 z
    · exact ne_of_none a2 hp z
  · obtain ⟨a, xs, a1, a2, a3, a4⟩ := E.io i ds h
    exact ⟨a, xs, a1, a2, by rw [upd_ne (ne_of_none a3 hp)]; exact a3, RepL.stp (Stp.new hp) (fun _ z => z) ds xs (RepL.grow g ds xs a4)⟩
/-- what stands apart may change -/
theorem EnvR.setM (E : EnvR K H0 M0 A env σ H) {p : Addr} {o : HO} (hpl : ∀ u, H p = some u → Pl u) (hp : M0 p) (ha : ¬ A p) (h0 : ¬ Lv H0 p) (ho : NT o := by first | exact nt_lst | exact nt_ins | exact nt_tup) : EnvR K H0 M0 A env σ (upd H p o) := by
  have st : Stp (MM M0 env σ) H (upd H p o) := Stp.set (.inl hp) hpl ho
  refine ⟨E.len, fun a u e n t => ?_, fun a h => mo_upd ho a (E.alive a h), fun P q h => tab_upd hpl P q (E.tb P q h), fun a h => mo_upd ho a (E.m0 a h), E.aM, E.a1, fun i d h => ?_, fun i ds h => ?_, fun i ds h => ?_, E.inj, E.io1, E.slf⟩
  · rw [upd_ne (fun z => h0 ⟨u, by rw [← z]; exact e, t⟩)]
    exact E.old a u e n t
  · obtain ⟨v, a1, a2⟩ := E.dat i d h
    exact ⟨v, a1, Rep.stp st (fun _ z => z) d v a2⟩
  · obtain ⟨a, xs, a1, a2, a3, a4, a5⟩ := E.own i ds h
    exact ⟨a, xs, a1, by rw [upd_ne (fun z => a4 (by rw [z]; exact hp))]; exact a2, RepL.stp st (fun _ z => z) ds xs a3, a4, a5⟩
  · obtain ⟨a, xs, a1, a2, a3, a4⟩ := E.io i ds h
    exact ⟨a, xs, a1, a2, by rw [upd_ne (fun z => ha (by rw [← z]; exact a2))]; exact a3, RepL.stp st (fun _ z => z) ds xs a4⟩
/-- less is set apart -/
theorem EnvR.less {M1 : AS} (E : EnvR K H0 M0 A env σ H) (h : ∀ a, M1 a → M0 a) (hA : ∀ a, A a → M1 a) : EnvR K H0 M1 A env σ H := by
  have g : ∀ x, MM M1 env σ x → MM M0 env σ x := fun x z => z.elim (fun q => .inl (h x q)) .inr
  refine ⟨E.len, E.old, E.alive, E.tb, fun a z => E.m0 a (h a z), hA, E.a1, fun i d e => ?_, fun i ds e => ?_, fun i ds e => ?_, E.inj, E.io1, E.slf⟩
  · obtain ⟨v, a1, a2⟩ := E.dat i d e
    exact ⟨v, a1, Rep.stp Stp.refl g d v a2⟩
  · obtain ⟨a, xs, a1, a2, a3, a4, a5⟩ := E.own i ds e
    exact ⟨a, xs, a1, a2, RepL.stp Stp.refl g ds xs a3, fun z => a4 (h a z), a5⟩
  · obtain ⟨a, xs, a1, a2, a3, a4⟩ := E.io i ds e
    exact ⟨a, xs, a1, a2, a3, RepL.stp Stp.refl g ds xs a4⟩
/-- some slots are hidden -/
theorem EnvR.wipe (E : EnvR K H0 M0 A env σ H) (is : List Nat) : EnvR K H0 M0 A (wipeE env is) (L2.wipe σ is) H ∧ ∀ a, MutAt (wipeE env is) (L2.wipe σ is) a → MutAt env σ a :=
  E.re (by rw [wipeE_len, wipe_length]; exact E.len) fun j c h => by
    obtain ⟨a, b⟩ := wipeE_get h
    exact .inl ⟨b, wipe_out a⟩
end
section
variable {X : Cx} {G : Ctx} {W : WX}
def tIf' (G : Ctx) (W : WX) (K : PySem.W.Frag) : Option IR → TT
  | none => tYes
  | some t => tIt G W K t
theorem lc_run {own : List Nat} {tg : Tgt} {T : Option (Env → R Bool)} {ee : Env → R D} {d : D} {ds : List D} {env : Env} {xs : List D} {e2 : Env} (h : lcLoop own tg T ee (d :: ds) env = .ok xs e2) :
    ∃ env1 b env2, bindT tg d (wipeE env own) = some env1 ∧ ((T = none ∧ b = true ∧ env2 = env1) ∨ ∃ t, T = some t ∧ t env1 = .ok b env2) ∧
        ((b = true ∧ ∃ x env3 ys, ee env2 = .ok x env3 ∧ lcLoop own tg T ee ds env3 = .ok ys e2 ∧ xs = x :: ys) ∨ (b = false ∧ lcLoop own tg T ee ds env2 = .ok xs e2)) := by
  unfold lcLoop at h
  cases hb : bindT tg d (wipeE env own) with
  | none => rw [hb] at h; cases h
  | some env1 =>
    rw [hb] at h
    dsimp only at h
    have main : ∀ (r : R Bool), (r.bind fun b env2 => if b = true then (ee env2).bind fun x env3 => (lcLoop own tg T ee ds env3).bind fun xs env4 => .ok (x :: xs) env4 else lcLoop own tg T ee ds env2) = .ok xs e2 →
        ∃ b env2, r = .ok b env2 ∧ ((b = true ∧ ∃ x env3 ys, ee env2 = .ok x env3 ∧ lcLoop own tg T ee ds env3 = .ok ys e2 ∧ xs = x :: ys) ∨ (b = false ∧ lcLoop own tg T ee ds env2 = .ok xs e2)) := fun r h => by
      cases r with
      | bad => cases h
      | exc C f d e => cases h
      | ok b env2 =>
        refine ⟨b, env2, rfl, ?_⟩
        cases b with
        | false => exact .inr ⟨rfl, h⟩
        | true =>
          have h : ((ee env2).bind fun x env3 => (lcLoop own tg T ee ds env3).bind fun xs env4 => R.ok (x :: xs) env4) = .ok xs e2 := h
          refine .inl ⟨rfl, ?_⟩
          cases h1 : ee env2 with
          | bad => rw [h1] at h; cases h
          | exc C f d e => rw [h1] at h; cases h
          | ok x env3 =>
            rw [h1] at h
            have h : ((lcLoop own tg T ee ds env3).bind fun xs env4 => R.ok (x :: xs) env4) = .ok xs e2 := h
            cases h2 : lcLoop own tg T ee ds env3 with
            | bad => rw [h2] at h; cases h
            | exc C f d e => rw [h2] at h; cases h
            | ok ys e4 => rw [h2] at h; cases h; exact ⟨x, env3, ys, rfl, h2, rfl⟩
    cases T with
    | none =>
      obtain ⟨b, env2, e1, e3⟩ := main (R.ok true env1) h
      cases e1
      exact ⟨env1, true, env1, rfl, .inl ⟨rfl, rfl, rfl⟩, e3⟩
    | some t =>
      obtain ⟨b, env2, e1, e3⟩ := main (t env1) h
      exact ⟨env1, b, env2, rfl, .inr ⟨t, rfl, e1⟩, e3⟩
def tsF (G : Ctx) : Option IR → Option (Env → R Bool)
  | none => none
  | some t => some fun x => truR (ev G t x)
/-- the state between two turns -/
structure LcAt (G : Ctx) (K : PySem.W.Frag) (H0 H1 : Hp) (M0 A : AS) (e1 : Env) (σ : L2.St) (own : List Nat) (tg : Tgt) (t : Option IR) (e : IR) (Dl : Addr) (ds xs : List D) (e2 : Env) (i : Nat) (H : Hp) : Prop where
  ex : ∃ (envI : Env) (acc rest : List D) (ys : List V), H Dl = some (.lst ys) ∧ ys.length ≤ i ∧ EnvR K H0 (fun a => M0 a ∨ a = Dl) A (wipeE envI own) (L2.wipe σ own) H ∧ RepL K H (MM (fun a => M0 a ∨ a = Dl) (wipeE envI own) (L2.wipe σ own)) acc ys ∧
    xs = acc ++ rest ∧ lcLoop own tg (tsF G t) (fun x => (ev G e x).take) (ds.drop i) envI = .ok rest e2 ∧ Stp (WW A e1 σ) H1 H ∧ (∀ a, MutAt (wipeE envI own) (L2.wipe σ own) a → MutAt e1 σ a) ∧
    (∀ (j : Nat) (c : Cell), j ∉ own → e1[j]? = some (some c) → ∃ c', envI[j]? = some (some c')) ∧ (∀ (j : Nat) (ds : List D), j ∉ own → envI[j]? = some (some (Cell.io ds)) → ∃ es, e1[j]? = some (some (Cell.io es))) ∧ envI.length = e1.length
theorem lc_reads {K : PySem.W.Frag} {H0 H1 : Hp} {M0 A : AS} {e1 : Env} {σ : L2.St} {own : List Nat} {tg : Tgt} {t : Option IR} {e : IR} {ds xs : List D} {e2 : Env} {Q : VK} {J : L2.It} {Dl : Addr} (E1 : EnvR K H0 M0 A e1 σ H1) (hown : ∀ j, j ∈ tgOwn tg → j ∈ own) (hide : own.all (hideB e1) = true)
    (gJ : Goes K (MM M0 e1 σ) (WW A e1 σ) H1 J ds) (hD : H1 Dl = none) (hlen : ds.length ≤ BIG) (hrun : lcLoop own tg (tsF G t) (fun x => (ev G e x).take) ds e1 = .ok xs e2)
    (fin : ∀ H', Stp (WW A e1 σ) H1 H' → Sub σ e1 (backE e1 e2 own) → EnvR K H0 M0 A (backE e1 e2 own) σ H' → Rep K H' (MM M0 (backE e1 e2 own) σ) (.lst xs) (.ref Dl) → Q (.ref Dl) H') :
    ∃ Wd : Nat → Nat → Hp → Prop, (∃ m, Wd 0 m (upd H1 Dl (.lst []))) ∧ ∀ i m H, Wd i m H →
      (J.stop i H ∧ Q (.ref Dl) H) ∨ (J.go i H ∧ ∃ Nx : Hp → Prop, (∀ H', Nx H' → ∃ m', m' < m ∧ Wd (i + 1) m' H') ∧ ∀ x H', J.yld i H x H' → gT K tg x (L2.wipe σ own) H' fun σ2 H2 => L2.wipe σ2 own = L2.wipe σ own ∧ tIf' G wNo K t σ2 H2 fun b H3 =>
        if b = true then tI G wNo K e σ2 H3 fun y H4 => ∃ acc, H4 Dl = some (.lst acc) ∧ acc.length < sizeLine ∧ Nx (upd H4 Dl (.lst (acc ++ [y]))) else Nx H3) := by
  obtain ⟨Gd, Y, wk, hGd, hY⟩ := gJ
  have hs : sizeLine = 16777216 := sizeLine_eq
  have fr := E1.fresh hD
  have nA : ¬ A Dl := fun z => (E1.m0 Dl (E1.aM Dl z)).ne hD
  refine lc_it wk (LcAt G K H0 H1 M0 A e1 σ own tg t e Dl ds xs e2) ⟨e1, [], xs, [], upd_same, Nat.zero_le _, ((E1.wipe own).1).apart hD, RepL.nil, rfl, hrun, Stp.new hD, (E1.wipe own).2, fun j c _ h => ⟨c, h⟩, fun j ds _ h => ⟨ds, h⟩, rfl⟩ (fun i H _ p => ?_) (fun i x H H' hi p y => ?_) fun H p => ?_
  · obtain ⟨_, _, _, _, _, _, _, _, _, _, s, _⟩ := p.ex
    exact hGd H s
  · obtain ⟨envI, acc, rest, ys, hH, hyl, EI, rI, ex, run, s, mI, th, iom, el⟩ := p.ex
    have hM : ∀ a, MM (fun a => M0 a ∨ a = Dl) (wipeE envI own) (L2.wipe σ own) a → (MM M0 e1 σ a ∨ ¬ Lv H1 a) ∧ Lv H a := fun a z => by
      refine ⟨?_, ?_⟩
      · rcases z with (z | z) | z
        · exact .inl (.inl z)
        · exact .inr (by rw [z]; exact nn_of hD)
        · exact .inl (.inr (mI a z))
      · rcases z with z | ⟨j, es, z1, z2⟩
        · exact EI.m0 a z
        · obtain ⟨b, zs, b1, b2, _⟩ := EI.own j es z1
          rw [z2] at b1; cases b1
          exact Lv.lst b2
    obtain ⟨st, d, hd, rd⟩ := hY i H x H' _ hi s hM y
    have hdrop : ds.drop i = d :: ds.drop (i + 1) := by
      rw [List.drop_eq_getElem_cons hi]
      congr 1
      have := List.getElem?_eq_getElem hi
      rw [hd] at this; exact (Option.some.inj this).symm
    rw [hdrop] at run
    obtain ⟨env1, b, env2, hb, ht, hr⟩ := lc_run run
    have EI' := EI.keep st
    have wl : (L2.wipe σ own).length = σ.length := wipe_length σ own
    -- the target
    refine tgt_read EI' hb rd fun σ' E' u' l' o' => ?_
    have hw : L2.wipe σ' own = L2.wipe σ own := by
      have : L2.wipe σ' own = L2.wipe (L2.wipe σ own) own := wipe_eq l'.symm fun j hj => o' j fun z => hj (hown j z)
      rw [this]
      exact wipe_eq wl.symm fun j hj => wipe_out hj
    refine ⟨hw, ?_⟩
    have nDl : ∀ {ev : Env} {τ : L2.St} {h : Hp}, EnvR K H0 (fun a => M0 a ∨ a = Dl) A ev τ h → ¬ WW A ev τ Dl := fun {ev τ h} E z => by
      rcases z with z | ⟨j, es, z1, z2⟩
      · exact nA z
      · obtain ⟨b, zs, b1, _, _, b4, _⟩ := E.own j es z1
        rw [z2] at b1; cases b1
        exact b4 (.inr rfl)
    have wI : ∀ a, WW A env1 σ' a → MM (fun a => M0 a ∨ a = Dl) (wipeE envI own) (L2.wipe σ own) a := fun a z => z.elim (fun q => .inl (.inl (E1.aM a q))) fun q => .inr (u' a q)
    have w1 : ∀ a, WW A env1 σ' a → WW A e1 σ a := fun a z => z.elim .inl fun q => .inr (mI a (u' a q))
    have cellOut : ∀ j, j ∉ own → env1[j]? = envI[j]? := fun j hj => by rw [(bind_out hb).1 j fun z => hj (hown j z), wipeE_out hj]
    have lenOut : env1.length = envI.length := by rw [(bind_out hb).2, wipeE_len]
    -- behind the test
    have cont : ∀ H3, Stp (WW A env1 σ') H' H3 → Sub σ' env1 env2 → EnvR K H0 (fun a => M0 a ∨ a = Dl) A env2 σ' H3 → if b = true then tI G wNo K e σ' H3 (fun y H4 => ∃ acc, H4 Dl = some (.lst acc) ∧ acc.length < sizeLine ∧ LcAt G K H0 H1 M0 A e1 σ own tg t e Dl ds xs e2 (i + 1) (upd H4 Dl (.lst (acc ++ [y]))))
        else LcAt G K H0 H1 M0 A e1 σ own tg t e Dl ds xs e2 (i + 1) H3 := fun H3 s2 u2 E2 => by
      have hH3 : H3 Dl = some (.lst ys) := s2.st Dl _ (st.st Dl _ hH id nt_lst) (nDl E') nt_lst
      have t3 : Stp (MM (fun a => M0 a ∨ a = Dl) (wipeE envI own) (L2.wipe σ own)) H H3 := st.no.trans (s2.weak wI)
      have t3' : Stp (WW A e1 σ) H1 H3 := (s.trans st.no).trans (s2.weak w1)
      rcases hr with ⟨rfl, x0, env3, ys', he, hrun', hxs⟩ | ⟨rfl, hrun'⟩
      · rw [if_pos rfl]
        refine take_read (f := fun d e => .ok d e) (P := fun d e _ => d = x0 ∧ e = env3) E2 (by rw [he]; exact fun _ _ _ _ => ⟨rfl, rfl⟩) fun d' v e' H4 E4 rd4 s4 u4 h4 => ?_
        obtain ⟨rfl, rfl⟩ := h4 H4 Stp.refl Sub.refl E4
        have hH4 : H4 Dl = some (.lst ys) := s4.st Dl _ hH3 (nDl E2) nt_lst
        refine ⟨ys, hH4, by unfold BIG at hlen; omega, ?_⟩
        have E5 := (E4.setM (o := .lst (ys ++ [v])) (pl_at hH4) (.inr rfl) nA fr.2).wipe own
        rw [hw] at E5
        have m5 : ∀ a, MutAt (wipeE e' own) (L2.wipe σ own) a → MutAt (wipeE envI own) (L2.wipe σ own) a := fun a z => u' a (u2.own a (u4.own a (E5.2 a z)))
        have M5 : ∀ a, MM (fun a => M0 a ∨ a = Dl) (wipeE e' own) (L2.wipe σ own) a → MM (fun a => M0 a ∨ a = Dl) (wipeE envI own) (L2.wipe σ own) a := fun a z => z.elim .inl fun q => .inr (m5 a q)
        have w2 : ∀ a, WW A env2 σ' a → WW A env1 σ' a := fun a z => z.elim .inl fun q => .inr (u2.own a q)
        have t4 := t3.trans (s4.weak fun a z => wI a (w2 a z))
        have t4' := t3'.trans (s4.weak fun a z => w1 a (w2 a z))
        refine ⟨e', acc ++ [d'], ys', ys ++ [v], upd_same, by rw [List.length_append]; simp only [List.length_singleton]; omega, E5.1, ?_, by rw [ex, hxs, List.append_assoc]; rfl, hrun', ⟨fun a o h n t => ?_, fun a h => mo_upd nt_lst a (t4'.mo a h), fun P q m h => tab_upd (pl_at hH4) P q (t4'.tb P q m h)⟩, fun a z => mI a (m5 a z), fun j c hj h => ?_, fun j es hj h => ?_, ?_⟩
        · refine RepL.append ?_ (RepL.cons ?_ RepL.nil)
          · exact RepL.stp (t4.trans (Stp.set (.inl (.inr rfl)) (pl_at hH4))) M5 acc ys rI
          · exact Rep.stp (M := MM (fun a => M0 a ∨ a = Dl) e' σ') (Stp.set (.inl (.inr rfl)) (pl_at hH4)) (fun a z => z.elim .inl fun q => .inr (E5.2 a q)) d' v rd4
        · rw [upd_ne (ne_of_none h hD)]
          exact t4'.st a o h n t
        · obtain ⟨c1, h1⟩ := th j c hj h
          obtain ⟨c2, h2⟩ := u2.there j c1 (by rw [cellOut j hj]; exact h1)
          exact u4.there j c2 h2
        · obtain ⟨es2, h2⟩ := u4.io j es h
          obtain ⟨es1, h1⟩ := u2.io j es2 h2
          rw [cellOut j hj] at h1
          exact iom j es1 hj h1
        · rw [u4.len, u2.len, lenOut, el]
      · rw [if_neg Bool.false_ne_true]
        have E5 := E2.wipe own
        rw [hw] at E5
        have m5 : ∀ a, MutAt (wipeE env2 own) (L2.wipe σ own) a → MutAt (wipeE envI own) (L2.wipe σ own) a := fun a z => u' a (u2.own a (E5.2 a z))
        have M5 : ∀ a, MM (fun a => M0 a ∨ a = Dl) (wipeE env2 own) (L2.wipe σ own) a → MM (fun a => M0 a ∨ a = Dl) (wipeE envI own) (L2.wipe σ own) a := fun a z => z.elim .inl fun q => .inr (m5 a q)
        refine ⟨env2, acc, rest, ys, hH3, by omega, E5.1, RepL.stp t3 M5 acc ys rI, ex, hrun', t3', fun a z => mI a (m5 a z), fun j c hj h => ?_, fun j es hj h => ?_, ?_⟩
        · obtain ⟨c1, h1⟩ := th j c hj h
          exact u2.there j c1 (by rw [cellOut j hj]; exact h1)
        · obtain ⟨es1, h1⟩ := u2.io j es h
          rw [cellOut j hj] at h1
          exact iom j es1 hj h1
        · rw [u2.len, lenOut, el]
    rcases ht with ⟨z1, rfl, rfl⟩ | ⟨t0, z1, z2⟩
    · have tn : t = none := by cases t with
        | none => rfl
        | some _ => cases z1
      subst tn
      exact cont H' Stp.refl Sub.refl E'
    · cases t with
      | none => cases z1
      | some t' =>
        cases z1
        exact ⟨H0, _, A, env1, E', by (have z3 : truR (ev G t' env1) = .ok b env2 := z2); rw [z3]; exact fun H3 s2 u2 E2 => cont H3 s2 u2 E2⟩
  · obtain ⟨envI, acc, rest, ys, hH, hyl, EI, rI, ex, run, s, mI, th, iom, el⟩ := p.ex
    rw [List.drop_length] at run
    unfold lcLoop at run
    cases run
    have hD' : ∀ j, j ∈ own → e1[j]? = some none ∨ ∃ d, e1[j]? = some (some (.dat d)) := fun j hj => by
      have h := (List.all_eq_true.mp hide) j hj
      unfold hideB at h
      cases q : e1[j]? with
      | none => rw [q] at h; cases h
      | some o =>
        rw [q] at h
        cases o with
        | none => exact .inl rfl
        | some c =>
          cases c with
          | dat d => exact .inr ⟨d, rfl⟩
          | _ => cases h
    have mB : ∀ a, MutAt (backE e1 e2 own) σ a → MutAt (wipeE e2 own) (L2.wipe σ own) a := fun a ⟨j, es, z1, z2⟩ => by
      rcases backE_get z1 with ⟨b1, b2⟩ | ⟨b1, b2⟩
      · exact ⟨j, es, by rw [wipeE_out b1]; exact b2, by rw [wipe_out b1]; exact z2⟩
      · rcases hD' j b1 with c1 | ⟨d, c1⟩ <;> (rw [c1] at b2; cases b2)
    obtain ⟨E2, _⟩ := EI.re (env' := backE e1 e2 own) (σ' := σ) (by rw [backE_len, el]; exact E1.len) fun j c h => by
      rcases backE_get h with ⟨b1, b2⟩ | ⟨b1, b2⟩
      · exact .inl ⟨by rw [wipeE_out b1]; exact b2, (wipe_out b1).symm⟩
      · rcases hD' j b1 with c1 | ⟨d, c1⟩
        · rw [c1] at b2; cases b2
        · rw [c1] at b2; cases b2
          obtain ⟨v, v1, v2⟩ := E1.dat j d c1
          refine .inr ⟨d, v, rfl, v1, ?_⟩
          have g : Rep K H1 (fun a => MM M0 e1 σ a ∨ a = Dl) d v := Rep.grow (fun a z => z.elim .inl fun q => .inr (by rw [q]; exact nn_of hD)) d v v2
          refine Rep.stp (s.weak fun a z => .inl (WW.sub E1.aM a z)) (fun a z => ?_) d v g
          rcases z with (z | z) | z
          · exact .inl (.inl z)
          · exact .inr z
          · exact .inl (.inr (mI a z))
    have E3 := E2.less (M1 := M0) (fun a z => .inl z) E1.aM
    refine fin H s ⟨fun a z => mI a (mB a z), fun j c h => ?_, fun j es h => ?_, by rw [backE_len, el]⟩ E3 ?_
    · by_cases hj : j ∈ own
      · exact ⟨c, backE_in hj (by rw [el]; exact (List.getElem?_eq_some_iff.mp h).1) h⟩
      · obtain ⟨c', h'⟩ := th j c hj h
        exact ⟨c', by rw [backE_out hj]; exact h'⟩
    · rcases backE_get h with ⟨b1, b2⟩ | ⟨b1, b2⟩
      · exact iom j es b1 b2
      · exact ⟨es, b2⟩
    · unfold Rep
      refine ⟨Dl, ys, rfl, .inl ⟨fun z => ?_, Rd.of hH⟩, ?_⟩
      · rcases z with z | ⟨j, es, z1, z2⟩
        · exact (E1.m0 Dl z).ne hD
        · obtain ⟨b, zs, b1, _, _, b4, _⟩ := E2.own j es z1
          rw [z2] at b1; cases b1
          exact b4 (.inr rfl)
      · rw [ex, List.append_nil]
        refine RepL.stp Stp.refl (fun a z => ?_) acc ys rI
        rcases z with z | z
        · exact .inl (.inl z)
        · exact .inr (mB a z)
end
end Mp
set_option maxHeartbeats 4000000
namespace Mp
open PySem L2
variable [TabsW] [GdW]
section
variable {X : Cx} {G : Ctx} {W : WX}
theorem ev_lc {tg : Tgt} {it : IT} {t : Option IR} {e : IR} {own : List Nat} {env : Env} : ev G (.lc tg it t e own) env = (noExc (evi G it env)).bind fun ds e1 => if ds.length ≤ BIG ∧ own.all (hideB e1) = true ∧ (tgOwn tg).all (fun i => own.contains i) = true then
        (noExc (lcLoop own tg (tsF G t) (fun x => (ev G e x).take) ds e1)).bind fun xs e2 => .ok (.val (.lst xs)) (backE e1 e2 own) else .bad := by
  cases t <;> (rw [ev.eq_def]; rfl)
theorem lc_imp {K : PySem.W.Frag} {tg : Tgt} {it : IT} {t : Option IR} {e : IR} {own : List Nat} {σ : L2.St} {H : Hp} {Q : VK} (q : tI G W K (.lc tg it t e own) σ H Q) : tLc (tIi G W K it) (gT K tg) (tIf' G wNo K t) (tI G wNo K e) own σ H Q := by
  obtain ⟨H0, M0, A, env, E, q⟩ := q
  rw [ev_lc] at q
  refine ⟨H0, M0, A, env, E, (Sat.noExc (W' := W) (Sat.bind q)).mono fun ds e1 H1 _ s1 u1 E1 h1 J gJ D hD => ?_⟩
  by_cases hcn : ds.length ≤ BIG ∧ own.all (hideB e1) = true ∧ (tgOwn tg).all (fun i => own.contains i) = true
  · rw [if_pos hcn] at h1
    cases hr : lcLoop own tg (tsF G t) (fun x => (ev G e x).take) ds e1 with
    | bad => rw [hr] at h1; exact h1.elim
    | exc C f d e2 => rw [hr] at h1; exact h1.elim
    | ok xs e2 =>
      rw [hr] at h1
      exact lc_reads E1 (fun j hj => by simpa using (List.all_eq_true.mp hcn.2.2) j hj) hcn.2.1 (gJ.weak (WW.sub E1.aM)) hD hcn.1 hr fun H' st sb E' r => h1 H' st sb E' _ r
  · rw [if_neg hcn] at h1; exact h1.elim
theorem e_lc {elt tgE iter : Expr} {ifs : List Expr} {scope : Scope} {own : List (Str × Nat)} {pos : Pos} {tg : Tgt} {it : IT} {t : Option IR} {e : IR} (hc : X.calm = true) (hN : X.N.Nodup) (hi : PI X tgE iter (tIi G W X.K it)) (ok : BlkOk X.N X.env.scope scope own)
    (hg : ∀ (s : Shared) (H : Hp) (C : Addr) (cl : List (Str × Addr)) (fp : List Addr), PG (X.blk s H scope (compEnvC scope cl C X.env) fp) tgE (gT X.K tg)) (ht : ∀ (s : Shared) (H : Hp) (C : Addr) (cl : List (Str × Addr)) (fp : List Addr), PTs (X.blk s H scope (compEnvC scope cl C X.env) fp) ifs (tIf' G wNo X.K t))
    (he : ∀ (s : Shared) (H : Hp) (C : Addr) (cl : List (Str × Addr)) (fp : List Addr), PE (X.blk s H scope (compEnvC scope cl C X.env) fp) elt (tI G wNo X.K e)) (hs : ∀ x, foldedSetIterable iter X.env x = pure x) :
    PE X (.ListComp elt [⟨tgE, iter, ifs, 0⟩] scope pos) (tI G W X.K (.lc tg it t e (own.map (·.2)))) := PE.by_ (pe_lc hc hN hi ok hg ht he hs) fun σ H Q q => lc_imp q
/-- an own class whose values' class is known -/
structure IsC (K : PySem.W.Frag) (C : Str) : Prop where
  cl : Cls K (clsAt K C)
  ha : PySem.W.findIn K (.ref (clsAt K C)) "__class__" = some (some (.builtin "object.__class__"))
  hn : PySem.W.specialIn K (.builtin "object.__class__") "__get__" = some (some (.builtin "getset_descriptor.__get__"))
  ht : PySem.W.takesIn K (.builtin "object.__class__") = some true
  hm : PySem.W.mroIn K (clsAt K C) (.type "object") = some true
structure IsK (K : PySem.W.Frag) (cs : List Str) (T : Ty) (u : Value) : Prop where
  n : PySem.W.kitOne K (.type "NoneType") u = some (tyD T .non)
  b : PySem.W.kitOne K (.type "bool") u = some (tyD T (.bl true))
  i : PySem.W.kitOne K (.type "int") u = some (tyD T (.int 0))
  s : PySem.W.kitOne K (.type "str") u = some (tyD T (.str Str.empty))
  l : PySem.W.kitOne K (.type "list") u = some (tyD T (.lst []))
  t : PySem.W.kitOne K (.type "tuple") u = some (tyD T (.tup []))
  d : PySem.W.kitOne K (.type "dict") u = some (tyD T .dct)
  c : ∀ C, C ∈ cs → PySem.W.kitOne K (.ref (clsAt K C)) u = some (tyD T (.obj C [] []))
theorem is_read {K : PySem.W.Frag} {cs : List Str} (hc : ∀ C, C ∈ cs → IsC K C) {H : Hp} {M : AS} {d : D} {v : V} (r : RepT K H M d v) (k : knownB cs d = true) : ∃ t, TyX K H v t ∧ ∀ T u, IsK K cs T u → PySem.W.kitOne K t u = some (tyD T d) := by
  cases d with
  | non => rw [r.non]; exact ⟨_, .base .non, fun T u h => h.n⟩
  | bl b => rw [r.bl]; exact ⟨_, .base (.bl b), fun T u h => by rw [h.b]; cases T <;> rfl⟩
  | int i => rw [r.int]; exact ⟨_, .base (.int i), fun T u h => by rw [h.i]; cases T <;> rfl⟩
  | str i => rw [r.str]; exact ⟨_, .base (.str i), fun T u h => by rw [h.s]; cases T <;> rfl⟩
  | lst ds =>
    obtain ⟨a, xs, rfl, h, _⟩ := r
    refine ⟨.type "list", ?_, fun T u h => by rw [h.l]; cases T <;> rfl⟩
    rcases h with (h | ⟨o, h⟩) | ⟨o, its, n, h, hc, _⟩
    · exact .base (.lst h)
    · exact .base (.frz h)
    · exact .kList h hc
  | tup ds =>
    obtain ⟨a, xs, rfl, h, _⟩ := r
    refine ⟨.type "tuple", ?_, fun T u h => by rw [h.t]; cases T <;> rfl⟩
    rcases h with h | ⟨o, h⟩
    · exact .base (.tup h)
    · exact .fTuple h
  | obj C ns ds =>
    have r' : Rep K H M (.obj C ns ds) v := r
    unfold Rep at r'
    obtain ⟨a, dx, xs, rfl, _, h, _⟩ := r'
    have hC : C ∈ cs := by
      unfold knownB at k
      simpa using k
    have I := hc C hC
    exact ⟨_, .base (.ins h I.cl I.ha I.hn I.ht I.hm), fun T u h => by rw [h.c C hC]; cases T <;> rfl⟩
  | raw w => cases k
  | fn x => cases k
  | dct =>
    have r' : Rep K H M .dct v := r
    unfold Rep at r'
    obtain ⟨a, rfl, _, h⟩ := r'
    exact ⟨_, .base (.dK h), fun T u h => h.d⟩
theorem isin_sat {K : PySem.W.Frag} {a : IR} {ts : List Ty} (hc : ∀ C, C ∈ G.cls → IsC K C) {σ : L2.St} {H : Hp} {Q : VK} (q : tI G W K (.isin a ts) σ H Q) :
    tI G W K a σ H fun x H1 => ∃ t, TyX K H1 x t ∧ ∃ d, (∀ T u, IsK K G.cls T u → PySem.W.kitOne K t u = some (tyD T d)) ∧ (∀ H2, Stp NoA H1 H2 → Q (.bl (ts.any fun T => tyD T d)) H2) := by
  obtain ⟨H0, M0, A, env, E, q⟩ := q
  rw [ev] at q
  refine ⟨H0, M0, A, env, E, (Sat.bind q).mono fun o e1 H1 _ s1 u1 E1 h1 x hx => ?_⟩
  cases e : rdO e1 o with
  | none => rw [e] at h1; exact h1.elim
  | some d =>
    rw [e] at h1
    dsimp only at h1
    by_cases hk : knownB G.cls d = true
    · rw [if_pos hk] at h1
      obtain ⟨t, h, h'⟩ := is_read hc (hx.rdT E1 e) hk
      exact ⟨t, h, d, h', fun H2 s => h1 H2 s.no Sub.refl (E1.keep s) _ (show Rep K H2 (MM M0 e1 σ) (.bl _) (.bl _) from rep_bl _)⟩
    · rw [if_neg hk] at h1; exact h1.elim
theorem e_isin1 {a c : Expr} {a' : IR} {T : Ty} {cv : V} {u : Value} {p pos : Pos} (hc : ∀ C, C ∈ G.cls → IsC X.K C) (hK : IsK X.K G.cls T u) (hv : ClsV cv u) (ha : PE X a (tI G W X.K a')) (hcl : PE X c (tC cv)) (hg : Gl X "isinstance") (hm : X.mg "isinstance" = none) (s1 : starB a = false) (s2 : starB c = false) :
    PE X (.Call (.Name "isinstance" p) [a, c] [] pos) (tI G W X.K (.isin a' [T])) :=
  PE.by_ (pe_callB call_isi hg hm (by decide +kernel) (pa_cons ha (pa_cons hcl pa_nil (star_cons s2)) (star_cons s1)) (by decide) (by decide) (star_cons s1) (star_none (by rw [List.any_cons, s2]; rfl))) fun σ H Q q => by
    obtain ⟨H0, M0, A, env, E, q⟩ := isin_sat hc q
    refine ⟨H0, M0, A, env, E, q.mono fun o e1 H1 _ s1 u1 E1 h1 x hx => ?_⟩
    obtain ⟨t, h2, d, h3, h4⟩ := h1 x hx
    refine ⟨x, cv, t, u, tyD T d, rfl, hv, h2, h3 T u hK, ?_⟩
    have := h4 H1 Stp.refl
    simpa using this
/-- append -/
theorem own_at {env : Env} {i : Nat} (h : ownB env i = true) : ∃ ds, env[i]? = some (some (.own ds)) := by
  unfold ownB at h
  cases e : env[i]? with
  | none => rw [e] at h; cases h
  | some o =>
    rw [e] at h
    cases o with
    | none => cases h
    | some c =>
      cases c with
      | own ds => exact ⟨ds, rfl⟩
      | _ => cases h
theorem e_app {x : Str} {np apos pos : Pos} {e : Expr} {i : Nat} {e' : IR} (hN : X.N[i]? = some x) (hv : Vis X.env.scope x) (hd : (x == ("__debug__" : Str)) = false) (hcd : (x == ("__classdict__" : Str)) = false) (ha : PE X e (tI G W X.K e')) (h1 : starB e = false)
    (hfew : ((backTo pos (starEach [e] X.env)).all (fun x => !x.1) && (backToKw pos (keywordEach [] X.env)).all (fun x => x.1.isSome)
      && decide (([e] : List Expr).length + ([] : List Keyword).length + (if ([] : List Keyword).isEmpty then 0 else 1) < 30)) = true)
    (hline : (apos.endLine == pos.line) = true) :
    PE X (.Call (.Attribute (.Name x np) "append" apos) [e] [] pos) (tI G W X.K (.app i e')) :=
  PE.by_ (pe_bm PySem.F.plainAttrs_list PySem.F.slot_list_append PySem.F.type_list_append mt_append (pe_var hN hv hd hcd) (pa_cons ha pa_nil (star_cons h1)) rfl hfew hline (star_cons h1) (star_none rfl)) fun σ H Q q => by
    obtain ⟨H0, M0, A, env, E, q⟩ := q
    rw [ev] at q
    by_cases ho : ownB env i = true
    · rw [if_pos ho] at q
      obtain ⟨ds, hi⟩ := own_at ho
      obtain ⟨a, xs, e1, e2, _⟩ := E.own i ds hi
      refine ⟨_, e1, .inl ⟨rfl, _, SqL.of e2⟩, H0, M0, A, env, E, ?_⟩
      unfold R.take at q
      rw [R.bind_assoc] at q
      refine (Sat.bind q).mono fun o e1' H1 _ s1 u1 E1 h1 v hx => ?_
      cases e : takeO e1' o with
      | none => rw [e] at h1; exact h1.elim
      | some p =>
        obtain ⟨d, e2'⟩ := p
        rw [e] at h1
        obtain ⟨E2, rd, u2⟩ := E1.take hx e
        have h1 : Sat X.K H0 M0 A W (match e2'[i]? with
            | some (some (.own ds)) => if ds.length < BIG then R.ok (.val .non) (e2'.set i (some (.own (ds ++ [d])))) else .bad
            | _ => .bad) e1' σ H1 fun o e1 H1 => ∀ v, OpdR X.K M0 e1 σ H1 o v → Q v H1 := h1
        cases h2 : e2'[i]? with
        | none => rw [h2] at h1; exact h1.elim
        | some c =>
          rw [h2] at h1
          cases c with
          | none => exact h1.elim
          | some c =>
            cases c with
            | own ds' =>
              dsimp only at h1
              by_cases hl : ds'.length < BIG
              · rw [if_pos hl] at h1
                obtain ⟨a', xs', f1, f2, f3, f4⟩ := E2.own i ds' h2
                rw [e1] at f1; cases f1
                have hs : sizeLine = 16777216 := sizeLine_eq
                refine ⟨a, xs', v, rfl, rfl, f2, by rw [← f3.length]; unfold BIG at hl; omega, ?_⟩
                have st : Stp (fun x => x = a) H1 (upd H1 a (.lst (xs' ++ [v]))) := Stp.set rfl (pl_at f2)
                have stM : Stp (MM M0 e2' σ) H1 (upd H1 a (.lst (xs' ++ [v]))) := st.weak fun x z => z ▸ .inr ⟨i, ds', h2, e1⟩
                obtain ⟨E3, u3, _⟩ := E2.setOwn h2 e1 st upd_same (out := ds' ++ [d]) ((RepL.stp stM (fun _ z => z) ds' xs' f3).append (RepL.cons (Rep.stp stM (fun _ z => z) d v rd) RepL.nil))
                refine h1 _ (st.weak fun x z => z ▸ .inr (u2.own a ⟨i, ds', h2, e1⟩)) (u2.trans u3) E3 .non ?_
                unfold OpdR
                dsimp only
                unfold Rep
                rfl
              · rw [if_neg hl] at h1; exact h1.elim
            | _ => exact h1.elim
    · rw [if_neg ho] at q; exact q.elim
end
end Mp
set_option maxHeartbeats 4000000
namespace Mp
open PySem L2
variable [TabsW] [GdW]
inductive SR where
  | nx (env : Env) | rt (d : D) (env : Env) | rl (ds : List D) (env : Env) | bk (env : Env) | ct (env : Env) | exc (C : Str) (f : Str) (d : D) (env : Env) | bad
def R.toS {α : Type} : R α → (α → Env → SR) → SR
  | .ok a e, k => k a e
  | .exc C f d e, _ => .exc C f d e
  | .bad, _ => .bad
def SR.seq : SR → (Env → SR) → SR
  | .nx e, k => k e
  | r, _ => r
/-- a list just made -/
inductive LM where
  | lst (es : List IR) | copy (e : IR) | call (j : Nat) (es : List IR)
inductive ST where
  | expr (e : IR) | asg (tg : Tgt) (e : IR) | new (i : Nat) (m : LM) | six (i : Nat) (ie e : IR)
  | if_ (t : IR) (a b : List ST) | for_ (tg : Tgt) (it : IT) (b : List ST) | whl (t : IR) (b : List ST)
  | ret (e : IR) | retn | retl (m : LM) | pass | brk | cont | par (is : List Nat) (es : List IR) | parn (i : Nat) (e : IR) (j : Nat) (m : LM) | parn3 (i : Nat) (a : IR) (j : Nat) (b : IR) (k : Nat) (m : LM) | nev | raise (C f : Str) (e : IR) | parl (i : Nat) (m : LM) (j : Nat) | setL (i : Nat) (ie e : IR) | parl2 (i j : Nat) (a : IR) | parl3 (i j : Nat) (a : IR) (k : Nat) (b : IR) | aug (i : Nat) (neg : Bool) (e : IR)
/-- the turns of a for -/
def forL (tg : Tgt) (body : Env → SR) : List D → Env → SR
  | [], env => .nx env
  | d :: ds, env => match bindT tg d env with
    | none => .bad
    | some e1 => match body e1 with
      | .nx e2 => forL tg body ds e2
      | .ct e2 => forL tg body ds e2
      | .bk e2 => .nx e2
      | .rt d e2 => .rt d e2
      | .rl d e2 => .rl d e2
      | .exc C f d e2 => .exc C f d e2
      | .bad => .bad
/-- the turns of a while, at most so many -/
def whlL (t : Env → R Bool) (body : Env → SR) : Nat → Env → SR
  | 0, _ => .bad
  | n + 1, env => (t env).toS fun b e1 => if b then (match body e1 with
      | .nx e2 => whlL t body n e2
      | .ct e2 => whlL t body n e2
      | .bk e2 => .nx e2
      | .rt d e2 => .rt d e2
      | .rl d e2 => .rl d e2
      | .exc C f d e2 => .exc C f d e2
      | .bad => .bad) else .nx e1
def evL (G : Ctx) : LM → Env → R (List D)
  | .lst es, env => evs G es env
  | .copy e, env => (ev G e env).rd.bind fun d e1 => match d with
    | .lst ds => .ok ds e1
    | .tup ds => .ok ds e1
    | _ => .bad
  | .call j es, env => match G.frs[j]? with
    | none => .bad
    | some f => if es.length = f.n then (evs G es env).bind fun vs e1 => (match f.sem vs with
      | .ok (.lst ds) _ => .ok ds e1
      | .exc C g d _ => .exc C g d e1
      | _ => .bad) else .bad
/-- a list that may be changed here -/
def placeB (env : Env) (i : Nat) : Bool := match env[i]? with
  | some (some (.own _)) => true
  | some (some (.io _)) => true
  | _ => false
mutual
def evS (G : Ctx) : ST → Env → SR
  | .expr e, env => (ev G e env).toS fun _ e1 => .nx e1
  | .asg tg e, env => (ev G e env).take.toS fun d e1 => match bindT tg d e1 with
    | some e2 => .nx e2
    | none => .bad
  | .new i m, env => (evL G m env).toS fun ds e1 => if ds.length ≤ BIG ∧ freeB e1 i = true then .nx (e1.set i (some (.own ds))) else .bad
  | .six i ie e, env => (ev G e env).take.toS fun d e1 => if placeB e1 i then (ev G ie e1).rd.toS fun k e2 => (match k, e2[i]? with
      | .int k, some (some (.own ds)) => if 0 ≤ k ∧ k < ds.length then .nx (e2.set i (some (.own (ds.set k.toNat d)))) else .bad
      | .int k, some (some (.io ds)) => if 0 ≤ k ∧ k < ds.length then .nx (e2.set i (some (.io (ds.set k.toNat d)))) else .bad
      | _, _ => .bad) else .bad
  | .retl m, env => (evL G m env).toS fun ds e1 => if ds.length ≤ BIG then .rl ds e1 else .bad
  | .par is es, env => (evs G es env).toS fun ds e1 => match bindT (.tup is) (.tup ds) e1 with
    | some e2 => .nx e2
    | none => .bad
  | .parn i e j m, env => (ev G e env).take.toS fun d e1 => (evL G m e1).toS fun ds e2 => if ds.length ≤ BIG ∧ freeB e2 i = true ∧ freeB e2 j = true ∧ i ≠ j then .nx ((e2.set i (some (.dat d))).set j (some (.own ds))) else .bad
  | .parn3 i a j b k m, env => (ev G a env).take.toS fun d e1 => (ev G b e1).take.toS fun d2 e2 => (evL G m e2).toS fun ds e3 => if ds.length ≤ BIG ∧ freeB e3 i = true ∧ freeB e3 j = true ∧ freeB e3 k = true ∧ i ≠ j ∧ i ≠ k ∧ j ≠ k then .nx (((e3.set i (some (.dat d))).set j (some (.dat d2))).set k (some (.own ds))) else .bad
  | .nev, _ => .bad
  | .aug i neg e, env => match cellAt env i with
    | some (.dat (.int j)) => (ev G e env).take.toS fun d e1 => (match d with
      | .int k => (match bindT (.name i) (.int (if neg then j - k else j + k)) e1 with
        | some e2 => .nx e2
        | none => .bad)
      | _ => .bad)
    | _ => .bad
  | .parl i m j, env => (evL G m env).toS fun ds e1 => if ds.length ≤ BIG ∧ freeB e1 i = true ∧ freeB e1 j = true ∧ i ≠ j then .nx ((e1.set i (some (.own ds))).set j (some (.own []))) else .bad
  | .parl2 i j a, env => (ev G a env).take.toS fun d e1 => if freeB e1 i = true ∧ freeB e1 j = true ∧ i ≠ j then .nx ((e1.set j (some (.dat d))).set i (some (.own []))) else .bad
  | .parl3 i j a k b, env => (ev G a env).take.toS fun d e1 => (ev G b e1).take.toS fun d2 e2 => if freeB e2 i = true ∧ freeB e2 j = true ∧ freeB e2 k = true ∧ i ≠ j ∧ i ≠ k ∧ j ≠ k then .nx (((e2.set j (some (.dat d))).set k (some (.dat d2))).set i (some (.own []))) else .bad
  | .setL i ie e, env => (ev G e env).take.toS fun d e1 => if placeB e1 i then (ev G ie e1).rd.toS fun k e2 => (match k, e2[i]? with
      | .int k, some (some (.own ds)) => (match ixN ds.length k with
        | some j => .nx (e2.set i (some (.own (ds.set j d))))
        | none => .bad)
      | _, _ => .bad) else .bad
  | .raise C f e, env => (evs G [e] env).toS fun ds e1 => match ds with
    | [d] => .exc C f d e1
    | _ => .bad
  | .if_ t a b, env => (truR (ev G t env)).toS fun c e1 => if c then evSs G a e1 else evSs G b e1
  | .for_ tg it b, env => (evi G it env).toS fun ds e1 => forL tg (fun e => evSs G b e) ds e1
  | .whl t b, env => whlL (fun e => truR (ev G t e)) (fun e => evSs G b e) BIG env
  | .ret e, env => (ev G e env).take.toS fun d e1 => .rt d e1
  | .retn, env => .rt .non env
  | .pass, env => .nx env
  | .brk, env => .bk env
  | .cont, env => .ct env
def evSs (G : Ctx) : List ST → Env → SR
  | [], env => .nx env
  | s :: ss, env => (evS G s env).seq fun e => evSs G ss e
end
/-- what is owned later was owned or is new -/
structure SubS (σ : L2.St) (env : Env) (H : Hp) (σ' : L2.St) (env' : Env) : Prop where
  own : ∀ a, MutAt env' σ' a → MutAt env σ a ∨ ¬ Lv H a
  len : σ'.length = σ.length
theorem SubS.refl {σ : L2.St} {env : Env} {H : Hp} : SubS σ env H σ env := ⟨fun _ z => .inl z, rfl⟩
theorem Sub.toS {σ : L2.St} {env e1 : Env} {H : Hp} (u : Sub σ env e1) : SubS σ env H σ e1 := ⟨fun a z => .inl (u.own a z), rfl⟩
section
variable {K : PySem.W.Frag} {H0 H H1 H2 : Hp} {M0 A : AS} {env e1 e2 : Env} {σ σ1 σ2 : L2.St} {W : WX}
theorem Stp.sTrans (s : Stp (WW A env σ) H H1) (u : SubS σ env H σ1 e1) (s2 : Stp (WW A e1 σ1) H1 H2) : Stp (WW A env σ) H H2 := by
  refine ⟨fun a o e n t => s2.st a o (s.st a o e n t) (fun z => ?_) t, fun a h => s2.mo a (s.mo a h), fun P q m h => s2.tb P q m (s.tb P q m h)⟩
  rcases z with z | z
  · exact n (.inl z)
  · rcases u.own a z with q | q
    · exact n (.inr q)
    · exact q ⟨o, e, t⟩
theorem SubS.trans (s : Stp (WW A env σ) H H1) (u : SubS σ env H σ1 e1) (u2 : SubS σ1 e1 H1 σ2 e2) : SubS σ env H σ2 e2 := by
  refine ⟨fun a z => ?_, u2.len.trans u.len⟩
  rcases u2.own a z with q | q
  · exact u.own a q
  · exact .inr fun w => q (s.mo a w)
/-- what follows a statement -/
def SatS (K : PySem.W.Frag) (H0 : Hp) (M0 A : AS) (W : WX) (r : SR) (env : Env) (σ : L2.St) (H : Hp) (D : Ends) : Prop := match r with
  | .nx e' => ∀ σ' H', Stp (WW A env σ) H H' → SubS σ env H σ' e' → EnvR K H0 M0 A e' σ' H' → D.nx σ' H'
  | .bk e' => ∀ σ' H', Stp (WW A env σ) H H' → SubS σ env H σ' e' → EnvR K H0 M0 A e' σ' H' → D.bk σ' H'
  | .ct e' => ∀ σ' H', Stp (WW A env σ) H H' → SubS σ env H σ' e' → EnvR K H0 M0 A e' σ' H' → D.ct σ' H'
  | .rt d e' => ∀ σ' v H', Stp (WW A env σ) H H' → SubS σ env H σ' e' → EnvR K H0 M0 A e' σ' H' → Rep K H' (MM M0 e' σ') d v → D.rt v H'
  | .rl ds e' => ∀ σ' p vs H', Stp (WW A env σ) H H' → SubS σ env H σ' e' → EnvR K H0 M0 A e' σ' H' → ¬ Lv H0 p → ¬ M0 p → H' p = some (.lst vs) → RepL K H' (fun a => M0 a ∨ a = p) ds vs → D.rt (.ref p) H'
  | .exc C f d e' => ∀ σ' dd v H', Stp (WW A env σ) H H' → SubS σ env H σ' e' → EnvR K H0 M0 A e' σ' H' → H' dd = some (.xd [(f, v)]) → Rep K H' (MM M0 e' σ') d v → W (.ref (clsAt K C)) (some dd) σ' H'
  | .bad => False
theorem SatS.go {r : SR} {D : Ends} (h : SatS K H0 M0 A W r env σ H D) (s : Stp (WW A env σ) H H1) (u : SubS σ env H σ1 e1) : SatS K H0 M0 A W r e1 σ1 H1 D := by
  cases r with
  | bad => exact h
  | nx e' => exact fun σ' H' s' u' E' => h σ' H' (s.sTrans u s') (u.trans s u') E'
  | bk e' => exact fun σ' H' s' u' E' => h σ' H' (s.sTrans u s') (u.trans s u') E'
  | ct e' => exact fun σ' H' s' u' E' => h σ' H' (s.sTrans u s') (u.trans s u') E'
  | rt d e' => exact fun σ' v H' s' u' E' => h σ' v H' (s.sTrans u s') (u.trans s u') E'
  | rl d e' => exact fun σ' p vs H' s' u' E' => h σ' p vs H' (s.sTrans u s') (u.trans s u') E'
  | exc C f d e' => exact fun σ' dd v H' s' u' E' => h σ' dd v H' (s.sTrans u s') (u.trans s u') E'
theorem SatS.toS {α : Type} {r : R α} {f : α → Env → SR} {D : Ends} (h : SatS K H0 M0 A W (r.toS f) env σ H D) : Sat K H0 M0 A W r env σ H fun a e1 H1 => SatS K H0 M0 A W (f a e1) e1 σ H1 D := by
  cases r with
  | bad => exact h
  | exc C f d e' => exact fun dd v H' s u E' => h σ dd v H' s u.toS E'
  | ok a e' => exact fun H' s u E' => SatS.go (show SatS K H0 M0 A W (f a e') env σ H D from h) s u.toS
end
section
variable {X : Cx} {G : Ctx} {W : WX}
def tS (G : Ctx) (W : WX) (K : PySem.W.Frag) (s : ST) : TS := fun D σ H => ∃ H0 M0 A env, EnvR K H0 M0 A env σ H ∧ SatS K H0 M0 A W (evS G s env) env σ H D
def tSs (G : Ctx) (W : WX) (K : PySem.W.Frag) (s : List ST) : TS := fun D σ H => ∃ H0 M0 A env, EnvR K H0 M0 A env σ H ∧ SatS K H0 M0 A W (evSs G s env) env σ H D
theorem PS.by_ {s : Stmt} {t t' : TS} (h : PS X s t) (i : ∀ D σ H, t' D σ H → t D σ H) : PS X s t' := ⟨fun pins s σ H D I q => h.run pins s σ H D I (i D σ H q)⟩
theorem PSs.by_ {s : List Stmt} {t t' : TS} (h : PSs X s t) (i : ∀ D σ H, t' D σ H → t D σ H) : PSs X s t' := ⟨fun pins s σ H D I q => h.run pins s σ H D I (i D σ H q)⟩
theorem take_readS {K : PySem.W.Frag} {H0 H : Hp} {M0 A : AS} {env : Env} {σ : L2.St} {i : IR} {f : D → Env → SR} {D : Ends} (E : EnvR K H0 M0 A env σ H) (q : SatS K H0 M0 A W ((ev G i env).take.toS f) env σ H D)
    {Q : VK} (k : ∀ d v e1 H1, EnvR K H0 M0 A e1 σ H1 → Rep K H1 (MM M0 e1 σ) d v → Stp (WW A env σ) H H1 → Sub σ env e1 → SatS K H0 M0 A W (f d e1) e1 σ H1 D → Q v H1) : tI G W K i σ H Q := by
  have q := SatS.toS q
  unfold R.take at q
  refine ⟨H0, M0, A, env, E, (Sat.bind q).mono fun o e1 H1 _ s1 u1 E1 h1 x hx => ?_⟩
  cases e : takeO e1 o with
  | none => rw [e] at h1; exact h1.elim
  | some p =>
    obtain ⟨d, e2⟩ := p
    rw [e] at h1
    obtain ⟨E2, rd, u2⟩ := E1.take hx e
    exact k d x e2 H1 E2 rd s1 (u1.trans u2) (h1 H1 Stp.refl u2 E2)
theorem rd_readS {K : PySem.W.Frag} {H0 H : Hp} {M0 A : AS} {env : Env} {σ : L2.St} {i : IR} {f : D → Env → SR} {D : Ends} (E : EnvR K H0 M0 A env σ H) (q : SatS K H0 M0 A W ((ev G i env).rd.toS f) env σ H D)
    {Q : VK} (k : ∀ d v e1 H1, EnvR K H0 M0 A e1 σ H1 → RepT K H1 (MM M0 e1 σ) d v → Stp (WW A env σ) H H1 → Sub σ env e1 → SatS K H0 M0 A W (f d e1) e1 σ H1 D → Q v H1) : tI G W K i σ H Q := by
  have q := SatS.toS q
  unfold R.rd at q
  refine ⟨H0, M0, A, env, E, (Sat.bind q).mono fun o e1 H1 _ s1 u1 E1 h1 x hx => ?_⟩
  cases e : rdO e1 o with
  | none => rw [e] at h1; exact h1.elim
  | some d =>
    rw [e] at h1
    exact k d x e1 H1 E1 (hx.rdT E1 e) s1 u1 (h1 H1 Stp.refl Sub.refl E1)
theorem st_expr {e : Expr} {i : IR} {pos : Pos} (he : PE X e (tI G W X.K i)) (hs : swapsWith e none pos.line X.env = pure false) : PS X (.Expr e pos) (tS G W X.K (.expr i)) := PS.by_ (ps_expr he hs) fun D σ H q => by
  obtain ⟨H0, M0, A, env, E, q⟩ := q
  rw [evS] at q
  exact ⟨H0, M0, A, env, E, (SatS.toS q).mono fun o e1 H1 _ s1 u1 E1 h1 v hv => h1 σ H1 Stp.refl SubS.refl E1⟩
theorem st_asg {tgE e : Expr} {tg : Tgt} {i : IR} {pos : Pos} (h : PS X (.Assign [tgE] e pos) (tAsg (tI G W X.K i) (gT X.K tg))) : PS X (.Assign [tgE] e pos) (tS G W X.K (.asg tg i)) := PS.by_ h fun D σ H q => by
  obtain ⟨H0, M0, A, env, E, q⟩ := q
  rw [evS] at q
  refine take_readS E q fun d v e1 H1 E1 rd s1 u1 h1 => ?_
  cases hb : bindT tg d e1 with
  | none => rw [hb] at h1; exact h1.elim
  | some e2 =>
    rw [hb] at h1
    exact tgt_read E1 hb rd fun σ' E' u' l' o' => h1 σ' H1 Stp.refl ⟨fun a z => .inl (u' a z), l'⟩ E'
theorem st_ret {e : Expr} {i : IR} {pos : Pos} (he : PE X e (tI G W X.K i)) : PS X (.Return (some e) pos) (tS G W X.K (.ret i)) := PS.by_ (ps_ret he) fun D σ H q => by
  obtain ⟨H0, M0, A, env, E, q⟩ := q
  rw [evS] at q
  exact take_readS E q fun d v e1 H1 E1 rd s1 u1 h1 => h1 σ v H1 Stp.refl SubS.refl E1 rd
/-- raise X(e): the error's own dict d is new and holds the field f -/
def tRaiseE (C : Addr) (f : Str) (W : WX) (ta : TA) : TS := fun _ σ H => ta σ H fun vs H1 => ∃ v, vs = [v] ∧ ∀ d, H1 d = none → W (.ref C) (some d) σ (upd H1 d (.xd [(f, v)]))
theorem st_raise {s : Stmt} {C f : Str} {i : IR} (h : PS X s (tRaiseE (clsAt X.K C) f W (tIs G W X.K [i]))) : PS X s (tS G W X.K (.raise C f i)) := PS.by_ h fun D σ H q => by
  obtain ⟨H0, M0, A, env, E, q⟩ := q
  rw [evS] at q
  refine ⟨H0, M0, A, env, E, (SatS.toS q).mono fun ds e1 H1 _ s1 u1 E1 h1 vs hv => ?_⟩
  cases ds with
  | nil => exact h1.elim
  | cons d ds =>
    cases ds with
    | cons _ _ => exact h1.elim
    | nil =>
      unfold RepL at hv
      obtain ⟨v, ys, rfl, rv, hn⟩ := hv
      unfold RepL at hn
      subst hn
      exact ⟨v, rfl, fun p hp => h1 σ p v _ (Stp.new hp) SubS.refl (E1.new hp) upd_same (Rep.stp (Stp.new hp) (fun _ z => z) d v rv)⟩
theorem ss_nil : PSs X [] (tSs G W X.K []) := PSs.by_ pss_nil fun D σ H q => by
  obtain ⟨H0, M0, A, env, E, q⟩ := q
  rw [evSs] at q
  exact q σ H Stp.refl SubS.refl E
theorem seq_read {K : PySem.W.Frag} {H0 H : Hp} {M0 A : AS} {env : Env} {σ : L2.St} {r : SR} {ss : List ST} {D : Ends} (q : SatS K H0 M0 A W (r.seq fun e => evSs G ss e) env σ H D) : SatS K H0 M0 A W r env σ H { D with nx := tSs G W K ss D } := by
  cases r with
  | nx e' => exact fun σ' H' s u E' => ⟨H0, M0, A, e', E', SatS.go (show SatS K H0 M0 A W (evSs G ss e') env σ H D from q) s u⟩
  | _ => exact q
theorem ss_cons {s : Stmt} {ss : List Stmt} {t : ST} {ts : List ST} (h1 : PS X s (tS G W X.K t)) (h2 : PSs X ss (tSs G W X.K ts)) : PSs X (s :: ss) (tSs G W X.K (t :: ts)) := PSs.by_ (pss_cons h1 h2) fun D σ H q => by
  obtain ⟨H0, M0, A, env, E, q⟩ := q
  rw [evSs] at q
  exact ⟨H0, M0, A, env, E, seq_read q⟩
theorem st_if {c : Expr} {a b : List Stmt} {t : IR} {as bs : List ST} {pos : Pos} (hc : PT X c (tIt G W X.K t)) (ha : PSs X a (tSs G W X.K as)) (hb : PSs X b (tSs G W X.K bs)) : PS X (.If c a b pos) (tS G W X.K (.if_ t as bs)) := PS.by_ (ps_if hc ha hb) fun D σ H q => by
  obtain ⟨H0, M0, A, env, E, q⟩ := q
  rw [evS] at q
  refine ⟨H0, M0, A, env, E, (SatS.toS q).mono fun b e1 H1 _ s1 u1 E1 h1 => ?_⟩
  cases b with
  | true => exact ⟨H0, M0, A, e1, E1, h1⟩
  | false => exact ⟨H0, M0, A, e1, E1, h1⟩
end
end Mp
set_option maxHeartbeats 4000000
namespace Mp
open PySem L2
variable [TabsW] [GdW]
section
variable {X : Cx} {G : Ctx} {W : WX}
theorem for_reads {K : PySem.W.Frag} {H0 H1 : Hp} {M0 A : AS} {e1 : Env} {σ : L2.St} {tg : Tgt} {b : List ST} {ds : List D} {J : L2.It} {D : Ends} (E1 : EnvR K H0 M0 A e1 σ H1) (gJ : Goes K (MM M0 e1 σ) (WW A e1 σ) H1 J ds)
    (q : SatS K H0 M0 A W (forL tg (fun e => evSs G b e) ds e1) e1 σ H1 D) :
    ∃ Wd : Nat → Nat → L2.St → Hp → Prop, (∃ m, Wd 0 m σ H1) ∧ ∀ i m σ H, Wd i m σ H →
      (J.stop i H ∧ D.nx σ H) ∨ (J.go i H ∧ ∃ N : L2.St → Hp → Prop, (∀ σ' H', N σ' H' → ∃ m', m' < m ∧ Wd (i + 1) m' σ' H') ∧ ∀ x H', J.yld i H x H' → gT K tg x σ H' fun σ2 H2 => tSs G W K b { D with nx := N, ct := N, bk := D.nx } σ2 H2) := by
  obtain ⟨Gd, Y, wk, hGd, hY⟩ := gJ
  refine L2.for_it wk (fun i σi Hi => ∃ envi, EnvR K H0 M0 A envi σi Hi ∧ Stp (WW A e1 σ) H1 Hi ∧ SubS σ e1 H1 σi envi ∧ SatS K H0 M0 A W (forL tg (fun e => evSs G b e) (ds.drop i) envi) envi σi Hi D) ⟨e1, E1, Stp.refl, SubS.refl, q⟩
    (fun i σ H _ ⟨_, _, s, _⟩ => hGd H s) (fun i x σi H H' hi ⟨envi, Ei, si, ui, qi⟩ y => ?_) fun σi H ⟨envi, Ei, si, ui, qi⟩ => ?_
  · have hM : ∀ a, MM M0 envi σi a → (MM M0 e1 σ a ∨ ¬ Lv H1 a) ∧ Lv H a := fun a z => by
      rcases z with z | z
      · exact ⟨.inl (.inl z), Ei.m0 a z⟩
      · refine ⟨(ui.own a z).elim (fun q => .inl (.inr q)) .inr, ?_⟩
        obtain ⟨j, es, z1, z2⟩ := z
        obtain ⟨b, zs, b1, b2, _⟩ := Ei.own j es z1
        rw [z2] at b1; cases b1
        exact Lv.lst b2
    obtain ⟨st, d, hd, rd⟩ := hY i H x H' _ hi si hM y
    have hdrop : ds.drop i = d :: ds.drop (i + 1) := by
      rw [List.drop_eq_getElem_cons hi]
      congr 1
      have := List.getElem?_eq_getElem hi
      rw [hd] at this; exact (Option.some.inj this).symm
    rw [hdrop, forL] at qi
    cases hb : bindT tg d envi with
    | none => rw [hb] at qi; exact qi.elim
    | some env2 =>
      rw [hb] at qi
      dsimp only at qi
      refine tgt_read (Ei.keep st) hb rd fun σ' E' u' l' o' => ⟨H0, M0, A, env2, E', ?_⟩
      have w : ∀ a, WW A env2 σ' a → WW A envi σi a := fun a z => z.elim .inl fun q => .inr (u' a q)
      have nxt : ∀ {e2 : Env} {σ2 : L2.St} {H2 : Hp}, Stp (WW A env2 σ') H' H2 → SubS σ' env2 H' σ2 e2 → Stp (WW A envi σi) H H2 ∧ SubS σi envi H σ2 e2 := fun {e2 σ2 H2} s2 u2 => by
        refine ⟨st.no.trans (s2.weak w), fun a z => ?_, u2.len.trans l'⟩
        rcases u2.own a z with q | q
        · exact .inl (u' a q)
        · exact .inr fun w => q (st.mo a w)
      cases hr : evSs G b env2 with
      | bad => rw [hr] at qi; exact qi.elim
      | nx e2 =>
        rw [hr] at qi
        intro σ2 H2 s2 u2 E2
        obtain ⟨s3, u3⟩ := nxt s2 u2
        exact ⟨e2, E2, si.sTrans ui s3, ui.trans si u3, SatS.go qi s3 u3⟩
      | ct e2 =>
        rw [hr] at qi
        intro σ2 H2 s2 u2 E2
        obtain ⟨s3, u3⟩ := nxt s2 u2
        exact ⟨e2, E2, si.sTrans ui s3, ui.trans si u3, SatS.go qi s3 u3⟩
      | bk e2 =>
        rw [hr] at qi
        intro σ2 H2 s2 u2 E2
        obtain ⟨s3, u3⟩ := nxt s2 u2
        exact qi σ2 H2 s3 u3 E2
      | rt d e2 =>
        rw [hr] at qi
        intro σ2 v H2 s2 u2 E2
        obtain ⟨s3, u3⟩ := nxt s2 u2
        exact qi σ2 v H2 s3 u3 E2
      | rl d e2 =>
        rw [hr] at qi
        intro σ2 p vs H2 s2 u2 E2
        obtain ⟨s3, u3⟩ := nxt s2 u2
        exact qi σ2 p vs H2 s3 u3 E2
      | exc C f d e2 =>
        rw [hr] at qi
        intro σ2 dd v H2 s2 u2 E2
        obtain ⟨s3, u3⟩ := nxt s2 u2
        exact qi σ2 dd v H2 s3 u3 E2
  · rw [List.drop_length, forL] at qi
    exact qi σi H Stp.refl SubS.refl Ei
theorem st_for {tgE iter : Expr} {body : List Stmt} {tg : Tgt} {it : IT} {b : List ST} {pos : Pos} (h : PS X (.For tgE iter body [] pos) (tFor (tIi G W X.K it) (gT X.K tg) (tSs G W X.K b))) : PS X (.For tgE iter body [] pos) (tS G W X.K (.for_ tg it b)) := PS.by_ h fun D σ H q => by
  obtain ⟨H0, M0, A, env, E, q⟩ := q
  rw [evS] at q
  exact ⟨H0, M0, A, env, E, (SatS.toS q).mono fun ds e1 H1 _ s1 u1 E1 h1 J gJ => for_reads E1 (gJ.weak (WW.sub E1.aM)) h1⟩
theorem whl_reads {K : PySem.W.Frag} {H0 H1 : Hp} {M0 A : AS} {e1 : Env} {σ : L2.St} {t : IR} {b : List ST} {D : Ends} {n : Nat} (E1 : EnvR K H0 M0 A e1 σ H1) (q : SatS K H0 M0 A W (whlL (fun e => truR (ev G t e)) (fun e => evSs G b e) n e1) e1 σ H1 D) :
    tWhile (tIt G W K t) (tSs G W K b) D σ H1 := by
  refine ⟨fun m σi Hi => ∃ envi, EnvR K H0 M0 A envi σi Hi ∧ SatS K H0 M0 A W (whlL (fun e => truR (ev G t e)) (fun e => evSs G b e) m envi) envi σi Hi D, ⟨n, e1, E1, q⟩, ?_⟩
  rintro m σi Hi ⟨envi, Ei, qi⟩
  cases m with
  | zero => rw [whlL] at qi; exact qi.elim
  | succ m =>
    rw [whlL] at qi
    refine ⟨H0, M0, A, envi, Ei, (SatS.toS qi).mono fun c e2 H2 _ s2 u2 E2 h2 => ?_⟩
    cases c with
    | false => exact h2 σi H2 Stp.refl SubS.refl E2
    | true =>
      rw [if_pos rfl]
      rw [if_pos rfl] at h2
      refine ⟨fun σ' H' => ∃ envi, EnvR K H0 M0 A envi σ' H' ∧ SatS K H0 M0 A W (whlL (fun e => truR (ev G t e)) (fun e => evSs G b e) m envi) envi σ' H' D, fun σ' H' p => ⟨m, Nat.lt_succ_self m, p⟩, H0, M0, A, e2, E2, ?_⟩
      cases hr : evSs G b e2 with
      | bad => rw [hr] at h2; exact h2.elim
      | nx e3 => rw [hr] at h2; exact fun σ3 H3 s3 u3 E3 => ⟨e3, E3, SatS.go h2 s3 u3⟩
      | ct e3 => rw [hr] at h2; exact fun σ3 H3 s3 u3 E3 => ⟨e3, E3, SatS.go h2 s3 u3⟩
      | bk e3 => rw [hr] at h2; exact fun σ3 H3 s3 u3 E3 => h2 σ3 H3 s3 u3 E3
      | rt d e3 => rw [hr] at h2; exact fun σ3 v H3 s3 u3 E3 => h2 σ3 v H3 s3 u3 E3
      | rl d e3 => rw [hr] at h2; exact fun σ3 p vs H3 s3 u3 E3 => h2 σ3 p vs H3 s3 u3 E3
      | exc C f d e3 => rw [hr] at h2; exact fun σ3 dd v H3 s3 u3 E3 => h2 σ3 dd v H3 s3 u3 E3
theorem st_whl {c : Expr} {body : List Stmt} {t : IR} {b : List ST} {pos : Pos} (h : PS X (.While c body [] pos) (tWhile (tIt G W X.K t) (tSs G W X.K b))) : PS X (.While c body [] pos) (tS G W X.K (.whl t b)) := PS.by_ h fun D σ H q => by
  obtain ⟨H0, M0, A, env, E, q⟩ := q
  rw [evS] at q
  exact whl_reads E q
/-- a new list of one's own in a slot -/
theorem EnvR.setNew {K : PySem.W.Frag} {H0 H : Hp} {M0 A : AS} {env : Env} {σ : L2.St} (E : EnvR K H0 M0 A env σ H) {i : Nat} {ds : List D} {vs : List V} {p : Addr} {H' : Hp} (hf : freeB env i = true) (hp : ¬ Lv H p) (s : Stp NoA H H') (h' : H' p = some (.lst vs)) (r : RepL K H' (fun a => MM M0 env σ a ∨ a = p) ds vs) :
    EnvR K H0 M0 A (env.set i (some (.own ds))) (σ.set i (some (.ref p))) H' ∧ SubS σ env H (σ.set i (some (.ref p))) (env.set i (some (.own ds))) := by
  have hi := free_lt hf
  have hi' : i < σ.length := by rw [← E.len]; exact hi
  obtain ⟨n1, n2⟩ := E.freshL hp
  have other : ∀ {j c}, (env.set i (some (Cell.own ds)))[j]? = some (some c) → (i = j ∧ c = .own ds) ∨ (i ≠ j ∧ env[j]? = some (some c) ∧ (σ.set i (some (V.ref p)))[j]? = σ[j]?) := fun {j c} e1 => by
    by_cases hj : i = j
    · subst hj; rw [List.getElem?_set_self hi] at e1; cases e1; exact .inl ⟨rfl, rfl⟩
    · rw [List.getElem?_set_ne hj] at e1; exact .inr ⟨hj, e1, List.getElem?_set_ne hj⟩
  have mutI : ∀ b, MutAt (env.set i (some (Cell.own ds))) (σ.set i (some (V.ref p))) b → MutAt env σ b ∨ b = p := fun b ⟨j, es, e1, e2⟩ => by
    rcases other e1 with ⟨rfl, _⟩ | ⟨hj, e1, e3⟩
    · rw [List.getElem?_set_self hi'] at e2; cases e2; exact .inr rfl
    · rw [e3] at e2; exact .inl ⟨j, es, e1, e2⟩
  have subM : ∀ b, MM M0 (env.set i (some (Cell.own ds))) (σ.set i (some (V.ref p))) b → MM M0 env σ b ∨ b = p := fun b z => z.elim (fun q => .inl (.inl q)) fun q => (mutI b q).elim (fun q => .inl (.inr q)) .inr
  have gr : ∀ b, (MM M0 env σ b ∨ b = p) → MM M0 env σ b ∨ ¬ Lv H b := fun b z => z.elim .inl fun q => .inr (by rw [q]; exact hp)
  have rep : ∀ {d v}, Rep K H (MM M0 env σ) d v → Rep K H' (MM M0 (env.set i (some (Cell.own ds))) (σ.set i (some (V.ref p)))) d v := fun {d v} r => Rep.stp s.no subM d v (Rep.grow gr d v r)
  have repL : ∀ {es xs}, RepL K H (MM M0 env σ) es xs → RepL K H' (MM M0 (env.set i (some (Cell.own ds))) (σ.set i (some (V.ref p)))) es xs := fun {es xs} r => RepL.stp s.no subM es xs (RepL.grow gr es xs r)
  refine ⟨⟨by rw [List.length_set, List.length_set]; exact E.len, fun b o e n t => ?_, fun b h => s.mo b (E.alive b h), fun P q h => s.tb P q h (E.tb P q h), fun b hb => s.mo b (E.m0 b hb), E.aM, E.a1, fun j d' e1 => ?_, fun j es e1 => ?_, fun j es e1 => ?_, fun j k b es fs e1 e2 e3 e4 => ?_, fun j k es fs e1 e2 => ?_, fun j C ns es e1 => ?_⟩, fun b z => ?_, List.length_set⟩
  · exact s.st b o (E.old b o e n t) id t
  · rcases other e1 with ⟨rfl, e⟩ | ⟨hj, e1, e3⟩
    · cases e
    · obtain ⟨v, a1, a2⟩ := E.dat j d' e1
      exact ⟨v, e3.trans a1, rep a2⟩
  · rcases other e1 with ⟨rfl, e⟩ | ⟨hj, e1, e3⟩
    · cases e
      exact ⟨p, vs, List.getElem?_set_self hi', h', RepL.stp Stp.refl subM ds vs r, fun z => n1 (.inl z), n2⟩
    · obtain ⟨b, zs, a1, a2, a3, a4⟩ := E.own j es e1
      exact ⟨b, zs, e3.trans a1, s.st b _ a2 id nt_lst, repL a3, a4⟩
  · rcases other e1 with ⟨rfl, e⟩ | ⟨hj, e1, e3⟩
    · cases e
    · obtain ⟨b, zs, a1, a2, a3, a4⟩ := E.io j es e1
      exact ⟨b, zs, e3.trans a1, a2, s.st b _ a3 id nt_lst, repL a4⟩
  · have pn : ∀ {j es}, env[j]? = some (some (Cell.own es)) → σ[j]? = some (some (V.ref p)) → False := fun {j es} h1 h2 => by
      obtain ⟨b, zs, a1, a2, _⟩ := E.own j es h1
      rw [h2] at a1; cases a1
      exact hp (Lv.lst a2)
    rcases other e1 with ⟨rfl, e⟩ | ⟨hj, e1, e5⟩
    · rw [List.getElem?_set_self hi'] at e3; cases e3
      rcases other e2 with ⟨rfl, _⟩ | ⟨_, e2, e6⟩
      · rfl
      · rw [e6] at e4; exact (pn e2 e4).elim
    · rw [e5] at e3
      rcases other e2 with ⟨rfl, _⟩ | ⟨_, e2, e6⟩
      · rw [List.getElem?_set_self hi'] at e4; cases e4
        exact (pn e1 e3).elim
      · rw [e6] at e4
        exact E.inj j k b es fs e1 e2 e3 e4
  · rcases other e1 with ⟨rfl, e⟩ | ⟨_, e1, _⟩
    · cases e
    · rcases other e2 with ⟨rfl, e⟩ | ⟨_, e2, _⟩
      · cases e
      · exact E.io1 j k es fs e1 e2
  · rcases other e1 with ⟨rfl, e⟩ | ⟨_, e1, _⟩
    · cases e
    · exact E.slf j C ns es e1
  · rcases mutI b z with q | q
    · exact .inl q
    · exact .inr (by rw [q]; exact hp)
def tIl (G : Ctx) (W : WX) (K : PySem.W.Frag) (m : LM) : TE := fun σ H Q => ∃ H0 M0 A env, EnvR K H0 M0 A env σ H ∧ Sat K H0 M0 A W (evL G m env) env σ H fun ds e1 H1 => ds.length ≤ BIG ∧ ∀ vs p H', Stp NoA H1 H' → ¬ Lv H1 p → H' p = some (.lst vs) → RepL K H' (fun a => MM M0 e1 σ a ∨ a = p) ds vs → Q (.ref p) H'
theorem new_rep {K : PySem.W.Frag} {H : Hp} {M : AS} {p : Addr} {ds : List D} {vs : List V} (hp : H p = none) (r : RepL K H M ds vs) : RepL K (upd H p (.lst vs)) (fun a => M a ∨ a = p) ds vs :=
  RepL.stp (Stp.new hp) (fun _ z => z) ds vs (RepL.grow (fun a z => z.elim .inl fun q => .inr (by rw [q]; exact nn_of hp)) ds vs r)
theorem l_lst {es : List Expr} {is : List IR} {pos : Pos} (h : PA X es (tIs G W X.K is)) : PE X (.List es pos) (tIl G W X.K (.lst is)) := PE.by_ (pe_lst h) fun σ H Q q => by
  obtain ⟨H0, M0, A, env, E, q⟩ := q
  rw [evL] at q
  refine ⟨H0, M0, A, env, E, q.mono fun ds e1 H1 _ s1 u1 E1 h1 xs hx => ?_⟩
  have hs : sizeLine = 16777216 := sizeLine_eq
  exact ⟨by rw [← hx.length]; have := h1.1; unfold BIG at this; omega, fun p hp => h1.2 xs p _ (Stp.new hp) (nn_of hp) upd_same (new_rep hp hx)⟩
theorem st_new {tgE e : Expr} {i : Nat} {m : LM} {pos : Pos} (h : PS X (.Assign [tgE] e pos) (tAsg (tIl G W X.K m) (gName i))) : PS X (.Assign [tgE] e pos) (tS G W X.K (.new i m)) := PS.by_ h fun D σ H q => by
  obtain ⟨H0, M0, A, env, E, q⟩ := q
  rw [evS] at q
  refine ⟨H0, M0, A, env, E, (SatS.toS q).mono fun ds e1 H1 _ s1 u1 E1 h1 => ?_⟩
  by_cases hc : ds.length ≤ BIG ∧ freeB e1 i = true
  · rw [if_pos hc] at h1
    refine ⟨hc.1, fun vs p H' s hp h' r => ?_⟩
    obtain ⟨E2, u2⟩ := E1.setNew hc.2 hp s h' r
    exact h1 _ _ s.no u2 E2
  · rw [if_neg hc] at h1; exact h1.elim
end
end Mp
set_option maxHeartbeats 4000000
namespace Mp
open PySem L2 PyProof.Rows
variable [TabsW] [GdW]
section
variable {X : Cx} {G : Ctx} {W : WX}
theorem ix_in' {n : Nat} {k : Int} (h0 : 0 ≤ k) (h1 : k < n) : ixN n k = some k.toNat := by
  unfold ixN
  rw [if_pos h0, if_pos h1]
theorem place_at {K : PySem.W.Frag} {H0 H : Hp} {M0 A : AS} {env : Env} {σ : L2.St} {i : Nat} (E : EnvR K H0 M0 A env σ H) (h : placeB env i = true) : ∃ a, σ[i]? = some (some (V.ref a)) := by
  unfold placeB at h
  cases e : env[i]? with
  | none => rw [e] at h; cases h
  | some o =>
    rw [e] at h
    cases o with
    | none => cases h
    | some c =>
      cases c with
      | own ds => obtain ⟨a, xs, g, _⟩ := E.own i ds e; exact ⟨a, g⟩
      | io ds => obtain ⟨a, xs, g, _⟩ := E.io i ds e; exact ⟨a, g⟩
      | _ => cases h
theorem st_six {tgE e : Expr} {i : Nat} {ie e' : IR} {pos : Pos} (h : PS X (.Assign [tgE] e pos) (tAsg (tI G W X.K e') (gSub (tVar i) (tI G W X.K ie) rSetL))) : PS X (.Assign [tgE] e pos) (tS G W X.K (.six i ie e')) := PS.by_ h fun D σ H q => by
  obtain ⟨H0, M0, A, env, E, q⟩ := q
  rw [evS] at q
  refine take_readS E q fun d v e1 H1 E1 rd s1 u1 h1 => ?_
  by_cases ho : placeB e1 i = true
  · rw [if_pos ho] at h1
    obtain ⟨a, g1⟩ := place_at E1 ho
    refine ⟨_, g1, rd_readS E1 h1 fun k kv e2 H2 E2 rk s2 u2 h2 => ?_⟩
    have rd2 := hold rd E1.aM s2 u2
    cases k with
    | int k =>
      cases h3 : e2[i]? with
      | none => rw [h3] at h2; exact h2.elim
      | some c =>
        rw [h3] at h2
        cases c with
        | none => exact h2.elim
        | some c =>
          cases c with
          | own ds' =>
            dsimp only at h2
            by_cases hk : 0 ≤ k ∧ k < ds'.length
            · rw [if_pos hk] at h2
              obtain ⟨a', xs', f1, f2, f3, f4⟩ := E2.own i ds' h3
              rw [g1] at f1; cases f1
              refine ⟨a, xs', k, k.toNat, rfl, rk.int, f2, ix_in' hk.1 (by rw [← f3.length]; exact hk.2), ?_⟩
              have st : Stp (fun x => x = a) H2 (upd H2 a (.lst (xs'.set k.toNat v))) := Stp.set rfl (pl_at f2)
              have stM : Stp (MM M0 e2 σ) H2 (upd H2 a (.lst (xs'.set k.toNat v))) := st.weak fun x z => z ▸ .inr ⟨i, ds', h3, g1⟩
              obtain ⟨E3, u3, _⟩ := E2.setOwn h3 g1 st upd_same (out := ds'.set k.toNat d) ((RepL.stp stM (fun _ z => z) ds' xs' f3).set (Rep.stp stM (fun _ z => z) d v rd2))
              exact h2 σ _ (st.weak fun x z => z ▸ .inr ⟨i, ds', h3, g1⟩) u3.toS E3
            · rw [if_neg hk] at h2; exact h2.elim
          | io ds' =>
            dsimp only at h2
            by_cases hk : 0 ≤ k ∧ k < ds'.length
            · rw [if_pos hk] at h2
              obtain ⟨a', xs', f1, f0, f2, f3⟩ := E2.io i ds' h3
              rw [g1] at f1; cases f1
              refine ⟨a, xs', k, k.toNat, rfl, rk.int, f2, ix_in' hk.1 (by rw [← f3.length]; exact hk.2), ?_⟩
              have st : Stp (fun x => x = a) H2 (upd H2 a (.lst (xs'.set k.toNat v))) := Stp.set rfl (pl_at f2)
              have stM : Stp (MM M0 e2 σ) H2 (upd H2 a (.lst (xs'.set k.toNat v))) := st.weak fun x z => z ▸ .inl (E2.aM a f0)
              obtain ⟨E3, u3, _⟩ := E2.setIo h3 g1 st upd_same (out := ds'.set k.toNat d) ((RepL.stp stM (fun _ z => z) ds' xs' f3).set (Rep.stp stM (fun _ z => z) d v rd2))
              exact h2 σ _ (st.weak fun x z => z ▸ .inl f0) u3.toS E3
            · rw [if_neg hk] at h2; exact h2.elim
          | _ => exact h2.elim
    | _ => exact h2.elim
  · rw [if_neg ho] at h1; exact h1.elim
theorem names_par2 {i j : Nat} {vs : List V} {σ : L2.St} {H : Hp} {P : L2.St → Hp → Prop} (h : gNames [i, j] vs σ H P) : ∃ v w, vs = [v, w] ∧ P ((σ.set i (some v)).set j (some w)) H := by
  obtain ⟨v, r, rfl, w, r', rfl, rfl, h⟩ := h
  exact ⟨v, w, rfl, h⟩
theorem par_read {K : PySem.W.Frag} {ns : List Nat} {es : List IR} {D : Ends} {σ : L2.St} {H : Hp} (q : tS G W K (.par ns es) D σ H) : tIs G W K es σ H fun vs H1 => gNames ns vs σ H1 D.nx := by
  obtain ⟨H0, M0, A, env, E, q⟩ := q
  rw [evS] at q
  refine ⟨H0, M0, A, env, E, (SatS.toS q).mono fun ds e1 H1 _ s1 u1 E1 h1 vs r => ?_⟩
  cases hb : bindT (.tup ns) (.tup ds) e1 with
  | none => rw [hb] at h1; exact h1.elim
  | some e2 =>
    rw [hb] at h1
    unfold bindT at hb
    dsimp only at hb
    by_cases hc : ds.length = ns.length ∧ ns.all (freeB e1) = true
    · rw [if_pos hc] at hb
      cases hb
      exact names_read ns ds vs e1 σ _ E1 hc.2 hc.1 r fun σ' E' u' l' o' => h1 σ' H1 Stp.refl ⟨fun a z => .inl (u' a z), l'⟩ E'
    · rw [if_neg hc] at hb; cases hb
theorem st_par2 {s : Stmt} {i j : Nat} {es : List IR} (h : PS X s (tPar i j (tIs G W X.K es))) : PS X s (tS G W X.K (.par [i, j] es)) := PS.by_ h fun D σ H q => by
  obtain ⟨H0, M0, A, env, E, q⟩ := par_read q
  exact ⟨H0, M0, A, env, E, q.mono fun ds e1 H1 _ s1 u1 E1 h1 vs r => names_par2 (h1 vs r)⟩
end
def cellF (io : Option Nat) (i : Nat) (d : D) : Option Cell := if io = some i then (match d with
  | .lst es => some (.io es)
  | _ => none) else some (.dat d)
def cellsF (io : Option Nat) : Nat → List D → Env
  | _, [] => []
  | i, d :: ds => cellF io i d :: cellsF io (i + 1) ds
def startE (io : Option Nat) (m : Nat) (ds : List D) : Env := cellsF io 0 ds ++ List.replicate (m - ds.length) none
def outE (io : Option Nat) (e : Env) : Option (List D) := match io with
  | none => some []
  | some i => match e[i]? with
    | some (some (.io ds)) => some ds
    | _ => none
/-- what a def with the body b yields: m slots -/
def semB (G : Ctx) (m : Nat) (io : Option Nat) (b : List ST) (ds : List D) : FR := match evSs G b (startE io m ds) with
  | .rt d e => (match outE io e with
    | some out => .ok d out
    | none => .bad)
  | .nx e => (match outE io e with
    | some out => .ok .non out
    | none => .bad)
  | .rl ds e => (match outE io e with
    | some out => .ok (.lst ds) out
    | none => .bad)
  | .exc C f d e => (match outE io e with
    | some out => .exc C f d out
    | none => .bad)
  | _ => .bad
theorem cells_get {io : Option Nat} : ∀ {ds : List D} {n j : Nat} {c : Cell}, (cellsF io n ds)[j]? = some (some c) → ∃ d, ds[j]? = some d ∧ cellF io (n + j) d = some c
  | [], n, j, c, h => by unfold cellsF at h; simp at h
  | d :: ds, n, 0, c, h => by
    unfold cellsF at h
    simp only [List.getElem?_cons_zero, Option.some.injEq] at h
    exact ⟨d, by simp, h⟩
  | d :: ds, n, j + 1, c, h => by
    unfold cellsF at h
    rw [List.getElem?_cons_succ] at h
    obtain ⟨e, e1, e2⟩ := cells_get h
    exact ⟨e, by simpa using e1, by rw [show n + (j + 1) = n + 1 + j by omega]; exact e2⟩
theorem cells_len {io : Option Nat} : ∀ {ds : List D} {n : Nat}, (cellsF io n ds).length = ds.length
  | [], n => rfl
  | d :: ds, n => by unfold cellsF; simp [cells_len]
theorem start_get {io : Option Nat} {m : Nat} {ds : List D} {j : Nat} {c : Cell} (h : (startE io m ds)[j]? = some (some c)) : ∃ d, ds[j]? = some d ∧ cellF io j d = some c := by
  unfold startE at h
  by_cases hj : j < (cellsF io 0 ds).length
  · rw [List.getElem?_append_left hj] at h
    obtain ⟨d, a, b⟩ := cells_get h
    exact ⟨d, a, by rw [Nat.zero_add] at b; exact b⟩
  · rw [List.getElem?_append_right (by omega)] at h
    rw [List.getElem?_replicate] at h
    split at h <;> cases h
theorem start_at {N : List Str} {vs : List V} {j : Nat} {v : V} (h : vs[j]? = some v) : (L2.start N vs)[j]? = some (some v) := by
  unfold L2.start
  have hj : j < vs.length := (List.getElem?_eq_some_iff.mp h).1
  rw [List.getElem?_append_left (by simpa using hj), List.getElem?_map, h]
  rfl
section
variable {K : PySem.W.Frag} {G : Ctx}
theorem env0 {H : Hp} {M : AS} {io : Option Nat} {ds : List D} {vs : List V} {N : List Str} (hl : vs.length ≤ N.length) (hM : MOk M H) (ar : ArgR K H M io ds vs) : EnvR K H M (IoA io vs) (startE io N.length ds) (L2.start N vs) H ∧ ∀ a, ¬ MutAt (startE io N.length ds) (L2.start N vs) a := by
  obtain ⟨len, at_⟩ := ar
  have cells : ∀ {j c}, (startE io N.length ds)[j]? = some (some c) → ∃ d v, ds[j]? = some d ∧ vs[j]? = some v ∧ cellF io j d = some c := fun {j c} h => by
    obtain ⟨d, a, b⟩ := start_get h
    have hj : j < vs.length := by rw [← len]; exact (List.getElem?_eq_some_iff.mp a).1
    exact ⟨d, vs[j], a, List.getElem?_eq_getElem hj, b⟩
  have noM : ∀ a, ¬ MutAt (startE io N.length ds) (L2.start N vs) a := fun a ⟨j, es, e1, e2⟩ => by
    obtain ⟨d, v, h1, h2, h3⟩ := cells e1
    unfold cellF at h3
    split at h3
    · split at h3 <;> cases h3
    · cases h3
  have subM : ∀ a, MM M (startE io N.length ds) (L2.start N vs) a → M a := fun a z => z.elim id fun q => (noM a q).elim
  have isIo : ∀ {j es}, (startE io N.length ds)[j]? = some (some (Cell.io es)) → io = some j ∧ ds[j]? = some (.lst es) ∧ ∃ v, vs[j]? = some v := fun {j es} h => by
    obtain ⟨d, v, h1, h2, h3⟩ := cells h
    unfold cellF at h3
    split at h3
    · rename_i hio
      split at h3
      · cases h3; exact ⟨hio, h1, v, h2⟩
      · cases h3
    · cases h3
  refine ⟨⟨?_, fun a o h _ _ => h, fun _ h => h, hM.tb, hM.al, fun a ⟨i, e1, e2⟩ => ?_, fun a b ⟨i, e1, e2⟩ ⟨j, f1, f2⟩ => ?_, fun j d h => ?_, fun j es h => ?_, fun j es h => ?_, fun j k a es fs h1 h2 h3 h4 => ?_, fun j k es fs h1 h2 => ?_, fun j C ns es h => ?_⟩, noM⟩
  · unfold startE L2.start
    rw [List.length_append, cells_len, List.length_replicate, List.length_append, List.length_map, List.length_replicate, len]
  · have hj : i < ds.length := by rw [len]; exact (List.getElem?_eq_some_iff.mp e2).1
    obtain ⟨a', xs, es, _, z, m, _⟩ := (at_ i ds[i] _ (List.getElem?_eq_getElem hj) e2).2 e1
    cases z; exact m
  · rw [e1] at f1; cases f1
    rw [e2] at f2; cases f2
    rfl
  · obtain ⟨d', v, h1, h2, h3⟩ := cells h
    unfold cellF at h3
    split at h3
    · split at h3 <;> cases h3
    · rename_i hio
      cases h3
      exact ⟨v, start_at h2, Rep.stp Stp.refl subM d v ((at_ j d v h1 h2).1 hio)⟩
  · obtain ⟨d', v, h1, h2, h3⟩ := cells h
    unfold cellF at h3
    split at h3
    · split at h3 <;> cases h3
    · cases h3
  · obtain ⟨hio, h1, v, h2⟩ := isIo h
    obtain ⟨a, xs, es', z1, z2, z3, z4, z5⟩ := (at_ j _ v h1 h2).2 hio
    cases z1
    subst z2
    exact ⟨a, xs, start_at h2, ⟨j, hio, h2⟩, z4, RepL.stp Stp.refl subM es xs z5⟩
  · exact (noM a ⟨j, es, h1, h3⟩).elim
  · have a1 := (isIo h1).1
    have a2 := (isIo h2).1
    rw [a1] at a2
    exact Option.some.inj a2
  · obtain ⟨d', v, h1, h2, h3⟩ := cells h
    unfold cellF at h3
    split at h3
    · split at h3 <;> cases h3
    · cases h3
/-- from a promise to the reading of the body -/
theorem body_read {n : Nat} {io : Option Nat} {b : List ST} {N : List Str} {vs : List V} {H : Hp} {Q : VK} {E : XK} (hn : n ≤ N.length) (h : spF K n io (semB G N.length io b) vs H Q E) :
    tSs G (fun cls d _ H' => E cls d H') K b { nx := fun _ H' => Q .non H', rt := Q } (L2.start N vs) H := by
  obtain ⟨hl, M, ds, hM, ar, h⟩ := h
  obtain ⟨E0, noM⟩ := env0 (N := N) (by rw [hl]; exact hn) hM ar
  have fl : ∀ {e' : Env} {σ' : L2.St} {H' : Hp} {out : List D}, Stp (WW (IoA io vs) (startE io N.length ds) (L2.start N vs)) H H' → EnvR K H M (IoA io vs) e' σ' H' → outE io e' = some out → Stp (IoA io vs) H H' ∧ OutR K H' M io out vs := fun {e' σ' H' out} s E' ho => by
    refine ⟨s.weak fun a z => z.elim id fun q => (noM a q).elim, fun i hi => ?_⟩
    subst hi
    unfold outE at ho
    dsimp only at ho
    cases q : e'[i]? with
    | none => rw [q] at ho; cases ho
    | some c =>
      rw [q] at ho
      cases c with
      | none => cases ho
      | some c =>
        cases c with
        | io es =>
          cases ho
          obtain ⟨a, xs, a1, ⟨j, b1, b2⟩, a3, a4⟩ := E'.io i out q
          cases b1
          exact ⟨a, xs, b2, a3, RepL.stp Stp.refl (fun _ z => .inl z) out xs a4⟩
        | _ => cases ho
  refine ⟨H, M, IoA io vs, startE io N.length ds, E0, ?_⟩
  unfold semB at h
  cases hr : evSs G b (startE io N.length ds) with
  | bad => rw [hr] at h; exact h.elim
  | bk e => rw [hr] at h; exact h.elim
  | ct e => rw [hr] at h; exact h.elim
  | nx e =>
    rw [hr] at h
    dsimp only at h
    cases ho : outE io e with
    | none => rw [ho] at h; exact h.elim
    | some out =>
      rw [ho] at h
      intro σ' H' s u E'
      obtain ⟨f1, f2⟩ := fl s E' ho
      exact h .non H' f1 f2 rep_non
  | rt d e =>
    rw [hr] at h
    dsimp only at h
    cases ho : outE io e with
    | none => rw [ho] at h; exact h.elim
    | some out =>
      rw [ho] at h
      intro σ' v H' s u E' r
      obtain ⟨f1, f2⟩ := fl s E' ho
      exact h v H' f1 f2 (Rep.stp Stp.refl (fun _ z => .inl z) d v r)
  | rl d e =>
    rw [hr] at h
    dsimp only at h
    cases ho : outE io e with
    | none => rw [ho] at h; exact h.elim
    | some out =>
      rw [ho] at h
      intro σ' p vs H' s u E' h0 hM hp r
      obtain ⟨f1, f2⟩ := fl s E' ho
      refine h (.ref p) H' f1 f2 ?_
      unfold Rep
      exact ⟨p, vs, rfl, .inl ⟨hM, Rd.of hp⟩, RepL.stp Stp.refl (fun _ z => .inl z) d vs r⟩
  | exc C f d e =>
    rw [hr] at h
    dsimp only at h
    cases ho : outE io e with
    | none => rw [ho] at h; exact h.elim
    | some out =>
      rw [ho] at h
      intro σ' dd v H' s u E' hd r
      obtain ⟨f1, f2⟩ := fl s E' ho
      exact h dd v H' f1 f2 hd (Rep.stp Stp.refl (fun _ z => .inl z) d v r)
end
section
variable {P : Program} {w : World} {K : PySem.W.Frag} {mg : Str → Option Value} {base : Heap} {G : Ctx}
/-- THE RULE: a def by the text of its body -/
theorem fn_body {x qual : Str} {st : Stmt} {f : Addr} {fd : FuncData} {N ps : List Str} {k : Nat} {io : Option Nat} {b : List ST} (F : Fun K x qual st f fd) (S : FnScope N ps (defScope st)) (hn : ps.length ≤ N.length)
    (hb : ∀ (cdv : Value) (A : Around) (outer : List PySem.Env) (s : Shared) (H : Hp) (E : XK), Room k (A.deeper (envOfC qual (defScope st) s.heap.objs.size f cdv)) →
      PSs (cxOf (L2.CX P w) P w K mg base N qual (defScope st) f cdv A outer s H E) (defBody st) (tSs G (fun cls d _ H' => E cls d H') K b)) :
    FnOk P w K mg base (L2.CX P w) (k + 1) f fd ps (spF K ps.length io (semB G N.length io b)) :=
  fun_okX F S (fun vs H Q E h => h.1) fun cdv A outer s H vs Q E hr h => ⟨_, hb cdv A outer s H E hr, body_read hn h⟩
end
end Mp
set_option maxHeartbeats 4000000
namespace Mp
open PySem L2 PyProof.Rows
variable [TabsW] [GdW]
section
variable {X : Cx} {G : Ctx} {W : WX}
theorem free_set {env : Env} {i j : Nat} {c : Option Cell} (h : i ≠ j) : freeB (env.set i c) j = freeB env j := by
  unfold freeB
  rw [List.getElem?_set_ne h]
theorem st_retl {e : Expr} {m : LM} {pos : Pos} (he : PE X e (tIl G W X.K m)) : PS X (.Return (some e) pos) (tS G W X.K (.retl m)) := PS.by_ (ps_ret he) fun D σ H q => by
  obtain ⟨H0, M0, A, env, E, q⟩ := q
  rw [evS] at q
  refine ⟨H0, M0, A, env, E, (SatS.toS q).mono fun ds e1 H1 _ s1 u1 E1 h1 => ?_⟩
  by_cases hc : ds.length ≤ BIG
  · rw [if_pos hc] at h1
    exact ⟨hc, fun vs p H' s hp h' r => h1 σ p vs H' s.no SubS.refl (E1.keep s) (E1.freshL hp).2 (fun z => (E1.freshL hp).1 (.inl z)) h' (RepL.stp Stp.refl (fun a z => z.elim (fun q => .inl (.inl q)) .inr) ds vs r)⟩
  · rw [if_neg hc] at h1; exact h1.elim
end
def spFr (K : PySem.W.Frag) (n : Nat) (F : List D → FR) : Sp := fun vs H Q E => vs.length = n ∧ ∃ (M : AS) (ds : List D), MOk M H ∧ RepL K H M ds vs ∧ (match F ds with
  | .ok (.lst es) _ => es.length ≤ BIG ∧ ∀ p xs H', Stp NoA H H' → ¬ Lv H p → H' p = some (.lst xs) → RepL K H' (fun a => M a ∨ a = p) es xs → Q (.ref p) H'
  | .exc C f d _ => ∀ dd v H', Stp NoA H H' → H' dd = some (.xd [(f, v)]) → Rep K H' M d v → E (.ref (clsAt K C)) (some dd) H'
  | _ => False)
structure FrF (P : Program) (w : World) (K : PySem.W.Frag) (mg : Str → Option Value) (base : Heap) (k : Nat) (x : Str) (f : Fn) : Prop where
  dbg : (x == ("__debug__" : Str)) = false
  ex : ∃ (a : Addr) (fd : FuncData) (ps : List Str) (sp : Sp) (ds : List Value) (dvs : List V), mg x = some (.ref a) ∧ PySem.W.keepIn K (.ref a) = true ∧ FnOk P w K mg base (L2.CX P w) k a fd ps sp ∧ Binds K fd ps ds ∧ Vals dvs ds ∧
    ∀ vs H Q E, spFr K f.n f.sem vs H Q E → sp (vs ++ dvs) H Q E
section
variable {X : Cx} {G : Ctx} {W : WX}
theorem l_call {k j : Nat} {f : Fn} {x : Str} {e : Expr} {es : List Expr} {is : List IR} {p pos : Pos} (F : FrF X.prog X.w X.K X.mg X.base k x f) (hj : G.frs[j]? = some f) (hr : Room k X.A) (tk : Takes X W) (hg : Gl X x) (ha : PA X (e :: es) (tIs G W X.K is)) (h1 : (e :: es).any starB = false) :
    PE X (.Call (.Name x p) (e :: es) [] pos) (tIl G W X.K (.call j is)) := by
  rw [List.any_cons, Bool.or_eq_false_iff] at h1
  obtain ⟨a, fd, ps, sp, ds, dvs, hm, hk, ok, hb, hd, hs⟩ := F.ex
  refine PE.by_ (pe_callSD ok hr hg hm hk hb hd (fun σ => passAt tk σ) ha F.dbg (star_cons h1.1) (star_none h1.2)) fun σ H Q q => ?_
  obtain ⟨H0, M0, A, env, E, q⟩ := q
  rw [evL, hj] at q
  dsimp only at q
  by_cases hl : is.length = f.n
  · rw [if_pos hl] at q
    refine ⟨H0, M0, A, env, E, (Sat.bind q).mono fun vs e1 H1 he s1 u1 E1 h1 ws hw => hs ws H1 Q _ ?_⟩
    refine ⟨by rw [← hw.length, evs_len G is env vs e1 he]; exact hl, MM M0 e1 σ, vs, E1.mok, hw, ?_⟩
    cases e : f.sem vs with
    | bad => rw [e] at h1; exact h1.elim
    | ok d out =>
      rw [e] at h1
      cases d with
      | lst ds =>
        have h2 := h1 H1 Stp.refl Sub.refl E1
        exact ⟨h2.1, fun p xs H' s hp h' r => h2.2 xs p H' s hp h' r⟩
      | _ => exact h1.elim
    | exc C g d out =>
      rw [e] at h1
      intro dd v H' st hd rv
      exact h1 dd v H' st.no Sub.refl (E1.keep st) hd rv
  · rw [if_neg hl] at q; exact q.elim
/-- what such a body yields -/
def semBF (G : Ctx) (m : Nat) (b : List ST) (ds : List D) : FR := match evSs G b (startE none m ds) with
  | .rl es e => if es.length ≤ BIG then .ok (.lst es) [] else .bad
  | .exc C f d e => .exc C f d []
  | _ => .bad
theorem body_readF {K : PySem.W.Frag} {n : Nat} {b : List ST} {N : List Str} {vs : List V} {H : Hp} {Q : VK} {E : XK} (hn : n ≤ N.length) (h : spFr K n (semBF G N.length b) vs H Q E) :
    tSs G (fun cls d _ H' => E cls d H') K b { nx := fun _ H' => Q .non H', rt := Q } (L2.start N vs) H := by
  obtain ⟨hl, M, ds, hM, rr, h⟩ := h
  have ar : ArgR K H M none ds vs := ⟨rr.length, fun i d v h1 h2 => ⟨fun _ => by
    obtain ⟨v', g1, g2⟩ := rr.get h1
    rw [h2] at g1; cases g1
    exact g2, fun z => nomatch z⟩⟩
  obtain ⟨E0, noM⟩ := env0 (N := N) (by rw [hl]; exact hn) hM ar
  have fl : ∀ {H' : Hp}, Stp (WW (IoA none vs) (startE none N.length ds) (L2.start N vs)) H H' → Stp NoA H H' := fun {H'} s => s.weak fun a z => z.elim (fun ⟨i, z, _⟩ => nomatch z) fun q => (noM a q).elim
  refine ⟨H, M, IoA none vs, startE none N.length ds, E0, ?_⟩
  unfold semBF at h
  cases hr : evSs G b (startE none N.length ds) with
  | rl es e =>
    rw [hr] at h
    dsimp only at h
    by_cases hB : es.length ≤ BIG
    · rw [if_pos hB] at h
      intro σ' p xs H' s u E' h0 hM' hp r
      exact h.2 p xs H' (fl s) h0 hp r
    · rw [if_neg hB] at h; exact h.elim
  | exc C f d e =>
    rw [hr] at h
    intro σ' dd v H' s u E' hd r
    exact h dd v H' (fl s) hd (Rep.stp Stp.refl (fun _ z => .inl z) d v r)
  | _ => rw [hr] at h; exact h.elim
end
section
variable {P : Program} {w : World} {K : PySem.W.Frag} {mg : Str → Option Value} {base : Heap} {G : Ctx}
theorem fn_bodyF {x qual : Str} {st : Stmt} {f : Addr} {fd : FuncData} {N ps : List Str} {k : Nat} {b : List ST} (F : Fun K x qual st f fd) (S : FnScope N ps (defScope st)) (hn : ps.length ≤ N.length)
    (hb : ∀ (cdv : Value) (A : Around) (outer : List PySem.Env) (s : Shared) (H : Hp) (E : XK), Room k (A.deeper (envOfC qual (defScope st) s.heap.objs.size f cdv)) →
      PSs (cxOf (L2.CX P w) P w K mg base N qual (defScope st) f cdv A outer s H E) (defBody st) (tSs G (fun cls d _ H' => E cls d H') K b)) :
    FnOk P w K mg base (L2.CX P w) (k + 1) f fd ps (spFr K ps.length (semBF G N.length b)) :=
  fun_okX F S (fun vs H Q E h => h.1) fun cdv A outer s H vs Q E hr h => ⟨_, hb cdv A outer s H E hr, body_readF hn h⟩
end
section
variable {X : Cx} {G : Ctx} {W : WX}
theorem iota_rep {K : PySem.W.Frag} {H : Hp} {M : AS} : ∀ (n : Nat) (lo : Int), RepL K H M (iotaD lo n) ((List.range n).map fun i => V.int (lo + (i : Nat)))
  | 0, lo => by unfold iotaD RepL; rfl
  | n + 1, lo => by
    have e : ((List.range (n + 1)).map fun i => V.int (lo + (i : Nat))) = V.int lo :: ((List.range n).map fun i => V.int (lo + 1 + (i : Nat))) := by
      rw [List.range_succ_eq_map, List.map_cons, List.map_map]
      congr 1
      · simp
      · refine List.map_congr_left fun i _ => ?_
        show V.int (lo + ((i + 1 : Nat) : Int)) = V.int (lo + 1 + (i : Nat))
        congr 1
        omega
    rw [e]
    unfold iotaD
    exact RepL.cons (rep_int lo) (iota_rep n (lo + 1))
theorem e_lrng {a : Expr} {i : IR} {p1 p2 p3 p4 : Pos} (hc : X.calm = true) (hg : Gl X "list") (hm : X.mg "list" = none) (hg2 : Gl X "range") (hm2 : X.mg "range" = none) (ha : PE X a (tI G W X.K i)) (hs : starB a = false) :
    PE X (.Call (.Name "list" p1) [.Call (.Name "range" p2) [a] [] p3] [] p4) (tI G W X.K (.lrng i)) :=
  PE.by_ (pe_listRg hc hg hm (prg_1 hg2 hm2 ha (star_cons hs)) (star_cons rfl)) fun σ H Q q => by
    obtain ⟨H0, M0, A, env, E, q⟩ := q
    rw [ev] at q
    refine rd_read E q fun d v e1 H1 E1 rd s1 u1 h1 => ?_
    cases d with
    | int j =>
      have h1 : Sat X.K H0 M0 A W (if -1000000 ≤ j ∧ j ≤ BIG then R.ok (.val (.lst (iotaD 0 j.toNat))) e1 else .bad) e1 σ H1 (fun o e1 H1 => ∀ v, OpdR X.K M0 e1 σ H1 o v → Q v H1) := h1
      by_cases hj : -1000000 ≤ j ∧ j ≤ BIG
      · rw [if_pos hj] at h1
        have hB : (BIG : Int) = 100000 := rfl
        refine ⟨j, rd.int, ⟨by omega, by omega, by omega, by omega, by omega⟩, fun q hq => h1 _ (Stp.new hq) Sub.refl (E1.new hq) _ ?_⟩
        have e : rgV 0 j = (List.range j.toNat).map fun i => V.int (0 + (i : Nat)) := by unfold rgV; rw [Int.sub_zero]
        exact rep_new hq (E1.fresh hq).1 (by rw [e]; exact iota_rep _ _)
      · rw [if_neg hj] at h1; exact h1.elim
    | _ => exact h1.elim
def tyVal (K : PySem.W.Frag) : D → Value
  | .non => .type "NoneType"
  | .bl _ => .type "bool"
  | .int _ => .type "int"
  | .str _ => .type "str"
  | .lst _ => .type "list"
  | .tup _ => .type "tuple"
  | .obj C _ _ => .ref (clsAt K C)
  | .raw _ => .none
  | .dct => .type "dict"
  | .fn _ => .none
theorem is_ty {K : PySem.W.Frag} {cs : List Str} (hc : ∀ C, C ∈ cs → IsC K C) {H : Hp} {M : AS} {d : D} {v : V} (r : RepT K H M d v) (k : knownB cs d = true) : TyX K H v (tyVal K d) := by
  cases d with
  | non => rw [r.non]; exact .base .non
  | bl b => rw [r.bl]; exact .base (.bl b)
  | int i => rw [r.int]; exact .base (.int i)
  | str i => rw [r.str]; exact .base (.str i)
  | lst ds =>
    obtain ⟨a, xs, rfl, h, _⟩ := r
    rcases h with (h | ⟨o, h⟩) | ⟨o, its, n, h, hc, _⟩
    · exact .base (.lst h)
    · exact .base (.frz h)
    · exact .kList h hc
  | tup ds =>
    obtain ⟨a, xs, rfl, h, _⟩ := r
    rcases h with h | ⟨o, h⟩
    · exact .base (.tup h)
    · exact .fTuple h
  | obj C ns ds =>
    have r' : Rep K H M (.obj C ns ds) v := r
    unfold Rep at r'
    obtain ⟨a, dx, xs, rfl, _, h, _⟩ := r'
    have hC : C ∈ cs := by
      unfold knownB at k
      simpa using k
    have I := hc C hC
    exact .base (.ins h I.cl I.ha I.hn I.ht I.hm)
  | raw w => cases k
  | fn x => cases k
  | dct =>
    have r' : Rep K H M .dct v := r
    unfold Rep at r'
    obtain ⟨a, rfl, _, h⟩ := r'
    exact .base (.dK h)
theorem is_kit {K : PySem.W.Frag} {cs : List Str} {d : D} (k : knownB cs d = true) {T : Ty} {u : Value} (h : IsK K cs T u) : PySem.W.kitOne K (tyVal K d) u = some (tyD T d) := by
  cases d with
  | non => exact h.n
  | bl b => exact h.b.trans (by cases T <;> rfl)
  | int i => exact h.i.trans (by cases T <;> rfl)
  | str i => exact h.s.trans (by cases T <;> rfl)
  | lst ds => exact h.l.trans (by cases T <;> rfl)
  | tup ds => exact h.t.trans (by cases T <;> rfl)
  | obj C ns ds =>
    have hC : C ∈ cs := by
      unfold knownB at k
      simpa using k
    exact (h.c C hC).trans (by cases T <;> rfl)
  | raw w => cases k
  | fn x => cases k
  | dct => exact h.d
theorem e_isin2 {a c1 c2 : Expr} {a' : IR} {T1 T2 : Ty} {v1 v2 : V} {u1 u2 : Value} {k : Nat} {p pos tp : Pos} (hc : ∀ C, C ∈ G.cls → IsC X.K C) (hK1 : IsK X.K G.cls T1 u1) (hK2 : IsK X.K G.cls T2 u2) (hv1 : ClsV v1 u1) (hv2 : ClsV v2 u2) (ha : PE X a (tI G W X.K a'))
    (h1 : PE X c1 (tC v1)) (h2 : PE X c2 (tC v2)) (hg : Gl X "isinstance") (hm : X.mg "isinstance" = none) (s1 : starB a = false) (s2 : starB c1 = false) (s3 : starB c2 = false) :
    PE X (.Call (.Name "isinstance" p) [a, .Tuple [c1, c2] k tp] [] pos) (tI G W X.K (.isin a' [T1, T2])) :=
  PE.by_ (pe_callB call_isiT hg hm (by decide +kernel) (pa_cons ha (pa_cons (pe_tup (pa_cons h1 (pa_cons h2 pa_nil (star_cons s3)) (star_cons s2))) pa_nil (star_cons rfl)) (star_cons s1)) (by decide) (by decide) (star_cons s1) (star_none rfl)) fun σ H Q q => by
    obtain ⟨H0, M0, A, env, E, q⟩ := q
    rw [ev] at q
    refine ⟨H0, M0, A, env, E, (Sat.bind q).mono fun o e1 H1 _ s1 u1 E1 h1 x hx => ?_⟩
    cases e : rdO e1 o with
    | none => rw [e] at h1; exact h1.elim
    | some d =>
      rw [e] at h1
      dsimp only at h1
      by_cases hk : knownB G.cls d = true
      · rw [if_pos hk] at h1
        have hs : sizeLine = 16777216 := sizeLine_eq
        refine ⟨by rw [hs]; show 2 ≤ 16777216; decide, fun t ht => ?_⟩
        have st : Stp NoA H1 (upd H1 t (.tup [v1, v2])) := Stp.new ht
        have hx2 := hx.hold E1.aM st.no Sub.refl
        refine ⟨x, t, [v1, v2], tyVal X.K d, [_, _], tyD T1 d || tyD T2 d, rfl, upd_same, .cons hv1 (.cons hv2 .nil), is_ty hc (hx2.rdT (E1.keep st) e) hk, ?_, ?_⟩
        · unfold PySem.W.kitAny
          rw [is_kit hk hK1]
          cases e1 : tyD T1 d with
          | true => rfl
          | false =>
            unfold PySem.W.kitAny
            dsimp only
            rw [is_kit hk hK2]
            cases e2 : tyD T2 d with
            | true => rfl
            | false => rfl
        · have h2 := h1 _ st.no Sub.refl (E1.keep st) (.bl ([T1, T2].any fun T => tyD T d)) (show Rep X.K (upd H1 t (HO.tup [v1, v2])) (MM M0 e1 σ) (.bl _) (.bl _) from rep_bl _)
          simpa using h2
      · rw [if_neg hk] at h1; exact h1.elim
end
end Mp
set_option maxHeartbeats 4000000
set_option maxHeartbeats 4000000
namespace Mp
open PySem L2 PyProof.Rows
variable [TabsW] [GdW]
theorem list_mulW (l : Addr) (items : Array Value) (n : Nat) (dd : Option Addr) (sl : Array (Option Value)) (x : Int) (u : Tok) (hc0 : ¬(!Builtin.List.listFitsIndex x) = true) (hc1 : ¬items.size * x.toNat > (2 ^ 63 - 1) / 8) (hc2 : ¬Builtin.List.listTooLong (items.size * x.toNat) = true) :
    Meets (Builtin.«list.__mul__» ⟨[.ref l, .int x u], []⟩) (fun _ R s => s.heap.get? l = some { cls := .type "list", dict := dd, data := .seq items n, slots := sl } ∧ R (.ok (.ret (Value.ref s.heap.objs.size))) { s with heap := s.heap.push { cls := Value.type "list", data := Data.seq (List.foldl (fun x1 x2 => x1 ++ x2) #[] (List.replicate (if items.isEmpty = true then 0 else x.toNat) items)) }, toks := s.toks }) :=
  .of_wp fun prog w A R s h => by
    obtain ⟨hp, g, d, tk, os⟩ := s; obtain ⟨hl, h⟩ := h
    have hsz := AutoListH.joined_fits hc2
    wp_walk using wpAny_loadPart' hl; refine wpAny_ite_false (decide_eq_false (Nat.not_lt.mpr hsz)) ?_; wp_walk using wpAny_loadPart' hl; exact ⟨_, rfl, h⟩
theorem int_rmul_listW (a : Int) (t : Tok) (l : Addr) (items : Array Value) (n : Nat) (dd : Option Addr) (sl : Array (Option Value)) :
    Meets (Builtin.«int.__rmul__» ⟨[.int a t, .ref l], []⟩) (fun _ R s => s.heap.get? l = some { cls := .type "list", dict := dd, data := .seq items n, slots := sl } ∧ R (.ok (.ret Value.notImplemented)) s) :=
  .of_wp fun prog w A R s h => by obtain ⟨hp, g, d, tk, os⟩ := s; obtain ⟨hl, h⟩ := h; wp_walk using wpAny_loadPart' hl; exact ⟨_, rfl, h⟩
theorem foldl_rep (its : List Value) : ∀ (n : Nat) (acc : Array Value), List.foldl (fun x1 x2 : Array Value => x1 ++ x2) acc (List.replicate n its.toArray) = acc ++ ((List.replicate n its).flatten).toArray
  | 0, acc => by simp
  | n + 1, acc => by
    rw [List.replicate_succ, List.foldl_cons, foldl_rep its n, List.replicate_succ, List.flatten_cons]
    simp
theorem rep_eq (its : List Value) (n : Nat) : List.foldl (fun x1 x2 : Array Value => x1 ++ x2) #[] (List.replicate (if its.toArray.isEmpty = true then 0 else n) its.toArray) = ((List.replicate n its).flatten).toArray := by
  rw [foldl_rep]
  cases its with
  | nil => simp
  | cons a l => simp
theorem vals_rep {xs : List V} {us : List Value} (h : Vals xs us) : ∀ n : Nat, Vals (List.replicate n xs).flatten (List.replicate n us).flatten
  | 0 => .nil
  | n + 1 => by
    rw [List.replicate_succ, List.replicate_succ, List.flatten_cons, List.flatten_cons]
    exact h.append (vals_rep h n)
/-- a list so many times -/
def rRepR (K : PySem.W.Frag) : V → V → Hp → VK → Prop := fun x y H Q => ∃ (l : Addr) (xs : List V) (j : Int), x = .ref l ∧ y = .int j ∧ SqL K H l xs ∧ 0 ≤ j ∧ j ≤ 100 ∧ xs.length ≤ 100 ∧ ∀ p, H p = none → Q (.ref p) (upd H p (.lst (List.replicate j.toNat xs).flatten))
theorem op_repR {X : Cx} : OpR X (binaryOp .Mult) (rRepR X.K) := by
  intro pins s σ H x y v u Q I rx ry h
  obtain ⟨l, xs, j, rfl, rfl, hH, h0, h1, hz, q⟩ := h
  cases rx
  obtain ⟨t, rfl⟩ := (show ∃ t, u = Value.int j t from ry)
  obtain ⟨its, r, ⟨⟨cls, dd, data, sl⟩, n, ho, hc, hd0, hd⟩, hz1⟩ := I.list hH
  simp only at hc hd
  subst hc hd
  have l1 := r.length
  have hs : sizeLine = 16777216 := sizeLine_eq
  have hm : its.toArray.size * j.toNat ≤ 10000 := by
    rw [List.size_toArray, ← l1]
    exact Nat.le_trans (Nat.mul_le_mul hz (show j.toNat ≤ 100 by omega)) (by decide)
  have hm2 : its.length * j.toNat ≤ 10000 := by rw [List.size_toArray] at hm; exact hm
  have hlen : ((List.replicate j.toNat xs).flatten).length ≤ 10000 := by
    rw [List.length_flatten]
    simp only [List.map_replicate, List.sum_replicate_nat]
    rw [List.size_toArray, ← l1, Nat.mul_comm] at hm
    exact hm
  refine wpAny_binaryOp_repeat_ref (T := "list") (U := "int") (by decide) ⟨_, ho, rfl⟩ (fun s' => typeIs_int s' j t) noFill_list_mul F.fills_int_mul F.slot_int_rmul repeat_list F.slot_int_index.lookup
    (call_meets F.slot_int_rmul (typeIs_int s j t) F.entry_int_rmul (F.args_int_rmul_2 _ _) (int_rmul_listW j t l its.toArray n dd sl)
      ⟨ho, rfl, ⟨_, ho, rfl⟩, call_meets F.slot_list_mul ⟨_, ho, rfl⟩ F.entry_list_mul (F.args_list_mul_2 _ _)
        (list_mulW l its.toArray n dd sl j t (by simp [Builtin.List.listFitsIndex]; omega) (by omega) (by simp only [Builtin.List.listTooLong]; simp; have := hm2; omega))
        ⟨ho, ?_⟩⟩)
  rw [rep_eq]
  exact ⟨.ref _, _, I.lnew (t' := s.toks) (vals_rep r j.toNat) (by omega), rfl, q _ I.fresh⟩
section
variable {X : Cx} {G : Ctx} {W : WX} {a b c : Expr} {a' b' c' : IR} {pos p : Pos} {j : Nat}
theorem xi {n : Int} : PE X (.Constant (.int n) j pos) (tI G W X.K (.c (.int n))) := e_c pe_int fun _ _ => rep_int _
theorem xb {n : Bool} : PE X (.Constant (.bool n) j pos) (tI G W X.K (.c (.bl n))) := e_c pe_bl fun _ _ => rep_bl _
theorem xn : PE X (.Constant .none j pos) (tI G W X.K (.c .non)) := e_c pe_non fun _ _ => rep_non
theorem xs {n : Str} : PE X (.Constant (.str n) j pos) (tI G W X.K (.c (.str n))) := e_c pe_str fun _ _ => rep_str _
theorem RepL.rep {K : PySem.W.Frag} {H : Hp} {M : AS} {ds : List D} {xs : List V} (h : RepL K H M ds xs) : ∀ n : Nat, RepL K H M (List.replicate n ds).flatten (List.replicate n xs).flatten
  | 0 => RepL.nil
  | n + 1 => by
    rw [List.replicate_succ, List.replicate_succ, List.flatten_cons, List.flatten_cons]
    exact h.append (RepL.rep h n)
theorem s_mul' {K : PySem.W.Frag} : OpS K (rOr rMulU (rRepR K)) mulD := by
  intro M x y H p q z Q rp rq hM e k
  cases p with
  | int i =>
    cases q with
    | int j => exact .inl (s_mul M x y H (.int i) (.int j) z Q rp rq hM e k)
    | _ => cases e
  | lst ds =>
    cases q with
    | int j =>
      have e' : (if 0 ≤ j ∧ j ≤ 100 ∧ ds.length ≤ 100 then some (D.lst (List.replicate j.toNat ds).flatten) else none) = some z := e
      by_cases hc : 0 ≤ j ∧ j ≤ 100 ∧ ds.length ≤ 100
      · rw [if_pos hc] at e'
        cases e'
        obtain ⟨la, xs, rfl, h1, r1⟩ := rp
        rw [rq.int]
        exact .inr ⟨la, xs, j, rfl, rfl, h1, hc.1, hc.2.1, by rw [← r1.length]; exact hc.2.2, fun p hp => k _ _ (Stp.new hp) (rep_new hp (hM p hp) (r1.rep j.toNat))⟩
      · rw [if_neg hc] at e'; cases e'
    | _ => cases e
  | _ => cases e
theorem x_add (ha : PE X a (tI G W X.K a')) (hb : PE X b (tI G W X.K b')) : PE X (.BinOp a .Add b pos) (tI G W X.K (.bin .add a' b')) := e_bin op_addU s_add ha hb
theorem x_sub (ha : PE X a (tI G W X.K a')) (hb : PE X b (tI G W X.K b')) : PE X (.BinOp a .Sub b pos) (tI G W X.K (.bin .sub a' b')) := e_bin op_sub s_sub ha hb
theorem x_mul (ha : PE X a (tI G W X.K a')) (hb : PE X b (tI G W X.K b')) : PE X (.BinOp a .Mult b pos) (tI G W X.K (.bin .mul a' b')) := e_bin (OpR.or op_mul op_repR) s_mul' ha hb
theorem x_fdiv (ha : PE X a (tI G W X.K a')) (hb : PE X b (tI G W X.K b')) : PE X (.BinOp a .FloorDiv b pos) (tI G W X.K (.bin .fdiv a' b')) := e_bin op_fdiv s_fdiv ha hb
theorem x_mod (ha : PE X a (tI G W X.K a')) (hb : PE X b (tI G W X.K b')) : PE X (.BinOp a .Mod b pos) (tI G W X.K (.bin .mod a' b')) := e_bin op_mod s_mod ha hb
theorem x_pow (ha : PE X a (tI G W X.K a')) (hb : PE X b (tI G W X.K b')) : PE X (.BinOp a .Pow b pos) (tI G W X.K (.bin .pow a' b')) := e_bin op_pow s_pow ha hb
theorem x_lt (ha : PE X a (tI G W X.K a')) (hb : PE X b (tI G W X.K b')) : PE X (.Compare a [.Lt] [b] pos) (tI G W X.K (.cmp .lt a' b')) := e_cmp op_lt s_lt ha hb (nomark _)
theorem x_gt (ha : PE X a (tI G W X.K a')) (hb : PE X b (tI G W X.K b')) : PE X (.Compare a [.Gt] [b] pos) (tI G W X.K (.cmp .gt a' b')) := e_cmp op_gt s_gt ha hb (nomark _)
theorem x_ge (ha : PE X a (tI G W X.K a')) (hb : PE X b (tI G W X.K b')) : PE X (.Compare a [.GtE] [b] pos) (tI G W X.K (.cmp .ge a' b')) := e_cmp op_ge s_ge ha hb (nomark _)
theorem x_eq (hu : X.A.units + 64 < cLine) (ha : PE X a (tI G W X.K a')) (hb : PE X b (tI G W X.K b')) : PE X (.Compare a [.Eq] [b] pos) (tI G W X.K (.cmp .eq a' b')) := e_cmp (op_eqD hu) s_eq ha hb (nomark _)
theorem x_is (ha : PE X a (tI G W X.K a')) (hb : PE X b (tI G W X.K b')) : PE X (.Compare a [.Is] [b] pos) (tI G W X.K (.cmp .is_ a' b')) := e_cmp (OpR.or op_isN op_is_bl) s_is ha hb (nomark _)
theorem x_isnot (ha : PE X a (tI G W X.K a')) (hb : PE X b (tI G W X.K b')) : PE X (.Compare a [.IsNot] [b] pos) (tI G W X.K (.cmp .isnot a' b')) := e_cmp (OpR.or op_notN op_isnot_bl) s_isnot ha hb (nomark _)
theorem y_lt (ha : PE X a (tI G W X.K a')) (hb : PE X b (tI G W X.K b')) : PT X (.Compare a [.Lt] [b] pos) (tIt G W X.K (.cmp .lt a' b')) := t_cmp op_lt s_lt ha hb (nomark _)
theorem y_le (ha : PE X a (tI G W X.K a')) (hb : PE X b (tI G W X.K b')) : PT X (.Compare a [.LtE] [b] pos) (tIt G W X.K (.cmp .le a' b')) := t_cmp op_le s_le ha hb (nomark _)
theorem y_gt (ha : PE X a (tI G W X.K a')) (hb : PE X b (tI G W X.K b')) : PT X (.Compare a [.Gt] [b] pos) (tIt G W X.K (.cmp .gt a' b')) := t_cmp op_gt s_gt ha hb (nomark _)
theorem y_eq (hu : X.A.units + 64 < cLine) (ha : PE X a (tI G W X.K a')) (hb : PE X b (tI G W X.K b')) : PT X (.Compare a [.Eq] [b] pos) (tIt G W X.K (.cmp .eq a' b')) := t_cmp (op_eqD hu) s_eq ha hb (nomark _)
theorem y_ne (hu : X.A.units + 64 < cLine) (ha : PE X a (tI G W X.K a')) (hb : PE X b (tI G W X.K b')) : PT X (.Compare a [.NotEq] [b] pos) (tIt G W X.K (.cmp .ne a' b')) := t_cmp (op_neD hu) s_ne ha hb (nomark _)
theorem y_is (ha : PE X a (tI G W X.K a')) (hb : PE X b (tI G W X.K b')) : PT X (.Compare a [.Is] [b] pos) (tIt G W X.K (.cmp .is_ a' b')) := t_cmp (OpR.or op_isN op_is_bl) s_is ha hb (nomark _)
theorem y_isnot (ha : PE X a (tI G W X.K a')) (hb : PE X b (tI G W X.K b')) : PT X (.Compare a [.IsNot] [b] pos) (tIt G W X.K (.cmp .isnot a' b')) := t_cmp (OpR.or op_notN op_isnot_bl) s_isnot ha hb (nomark _)
theorem any1 (h : starB a = false) : ([a] : List Expr).any starB = false := by rw [List.any_cons, h]; rfl
theorem any2 (h : starB a = false) (h2 : starB b = false) : ([a, b] : List Expr).any starB = false := by rw [List.any_cons, h, List.any_cons, h2]; rfl
theorem b_len (hm : X.mg "len" = none) (hg : Gl X "len") (ha : PE X a (tI G W X.K a')) (hs : starB a = false) : PE X (.Call (.Name "len" p) [a] [] pos) (tI G W X.K (.blt .len [a'])) := e_bltF call_len s_len hg hm (by decide +kernel) (ar_cons ha ar_nil hs) (any1 hs) (by decide) (by decide)
theorem b_int (hm : X.mg "int" = none) (hg : Gl X "int") (ha : PE X a (tI G W X.K a')) (hs : starB a = false) : PE X (.Call (.Name "int" p) [a] [] pos) (tI G W X.K (.blt .int [a'])) := e_bltT call_int1 s_int hg hm (by decide +kernel) (ar_cons ha ar_nil hs) (any1 hs) (by decide) (by decide)
theorem b_max (hc : X.calm = true) (hm : X.mg "max" = none) (hg : Gl X "max") (ha : PE X a (tI G W X.K a')) (hb : PE X b (tI G W X.K b')) (hs : starB a = false) (hs2 : starB b = false) : PE X (.Call (.Name "max" p) [a, b] [] pos) (tI G W X.K (.blt .max2 [a', b'])) := e_bltF (call_max2 hc) s_max2 hg hm (by decide +kernel) (ar_cons ha (ar_cons hb ar_nil hs2) hs) (any2 hs hs2) (by decide) (by decide)
theorem b_min (hc : X.calm = true) (hm : X.mg "min" = none) (hg : Gl X "min") (ha : PE X a (tI G W X.K a')) (hb : PE X b (tI G W X.K b')) (hs : starB a = false) (hs2 : starB b = false) : PE X (.Call (.Name "min" p) [a, b] [] pos) (tI G W X.K (.blt .min2 [a', b'])) := e_bltF (call_min2 hc) s_min2 hg hm (by decide +kernel) (ar_cons ha (ar_cons hb ar_nil hs2) hs) (any2 hs hs2) (by decide) (by decide)
theorem b_tuple (hm : X.mg "tuple" = none) (hg : Gl X "tuple") (ha : PE X a (tI G W X.K a')) (hs : starB a = false) : PE X (.Call (.Name "tuple" p) [a] [] pos) (tI G W X.K (.blt .tuple [a'])) := e_bltT call_tuple_of s_tuple hg hm (by decide +kernel) (ar_cons ha ar_nil hs) (any1 hs) (by decide) (by decide)
theorem b_all (hc : X.calm = true) (hm : X.mg "all" = none) (hg : Gl X "all") (ha : PE X a (tI G W X.K a')) (hs : starB a = false) : PE X (.Call (.Name "all" p) [a] [] pos) (tI G W X.K (.blt .all [a'])) := e_bltF (cr_all hc) s_all hg hm (by decide +kernel) (ar_cons ha ar_nil hs) (any1 hs) (by decide) (by decide)
theorem hu64 {A : Around} {k : Nat} (hr : Room k A) : A.units + 64 < cLine := by have := hr.r.un; omega
/-- name = [.. for ..] -/
theorem st_lc {i : Nat} {s : Stmt} {tg : Tgt} {it : IT} {t : Option IR} {e : IR} {own : List Nat} (h : PS X s (tAsg (tLc (tIi G W X.K it) (gT X.K tg) (tIf' G wNo X.K t) (tI G wNo X.K e) own) (gName i))) : PS X s (tAsg (tI G W X.K (.lc tg it t e own)) (gT X.K (.name i))) := PS.by_ h fun D σ H q => lc_imp q
end
end Mp
set_option maxHeartbeats 4000000
namespace Mp
open PySem L2 PyProof.Rows
variable [TabsW] [GdW]
section
variable {X : Cx} {G : Ctx} {W : WX}
def rOc (K : PySem.W.Frag) (C : Addr) (n : Nat) (F : List D → FR) : R2 := fun x y H Q => ∃ a dx fs b dy gs, x = .ref a ∧ y = .ref b ∧ H a = some (.ins C dx fs) ∧ H b = some (.ins C dy gs) ∧ ∀ E, spF K n none F [x, y] H Q E
theorem op_ownI {k : Nat} {m : Mt} {op : CmpOp} (hop : ∀ a b, compareOp op a b = richCompare op a b) (F : MtF X.prog X.w X.K X.mg X.base k m) (hn : m.name = (cmpInfo op).2.1) (hr : Room k X.A) (tk : Takes X W) : OpR X (compareOp op) (rOc X.K (clsAt X.K m.C) m.n m.sem) := by
  intro pins s σ H x y v u Q I rx ry h
  obtain ⟨a, dx, fs, b, dy, gs, rfl, rfl, ha, hb, q⟩ := h
  obtain ⟨f, fd, ps, sp, ds, dvs, hm, ok, bi, hd, hs⟩ := F.ex
  cases (show v = Value.ref a from rx)
  cases (show u = Value.ref b from ry)
  obtain ⟨mA, O, _⟩ := ins_get I.hok ha
  obtain ⟨od, J, _⟩ := O.look
  obtain ⟨mB, O', _⟩ := ins_get I.hok hb
  obtain ⟨od', J', _⟩ := O'.look
  obtain ⟨m', hF⟩ := I.fr
  rw [hop]
  have nf : PySem.W.notFirst X.K (clsAt X.K m.C) (.ref (clsAt X.K m.C)) = true := by
    unfold PySem.W.notFirst
    rw [Bool.or_eq_true]
    exact .inl (by simp)
  refine PySem.W.cmp_K (op := op) (tb := .ref (clsAt X.K m.C)) hr.r.units0 hF I.ok.mod.kin J J'.type nf (by rw [← hn]; exact hm.at_) hm.fn ?_
  refine wpAny_mono (run_fnSD (E := WE W) (us := [.ref a, .ref b]) (vs := [.ref a, .ref b]) ok hr bi hd (passAt tk σ) I (.cons rfl (.cons rfl .nil)) (hs _ _ _ _ (q (WE W σ)))) (fun w s' z => ?_) fun _ _ x => x
  obtain ⟨z', H', I', rz, qz⟩ := z
  exact SlX.cmpback rz ⟨z', H', I', rz, qz⟩
theorem ocmp_read {K : PySem.W.Frag} {j : Nat} {m : Mt} {a b : IR} (hj : G.mts[j]? = some m) {σ : L2.St} {H : Hp} {Q : VK} (q : tI G W K (.ocmp j a b) σ H Q) : tOp (rOc K (clsAt K m.C) m.n m.sem) (tI G W K a) (tI G W K b) σ H Q := by
  obtain ⟨H0, M0, A, env, E, q⟩ := q
  rw [ev] at q
  refine ⟨H0, M0, A, env, E, (Sat.bind q).mono fun o e1 H1 _ s1 u1 E1 h1 x hx => ?_⟩
  refine ⟨H0, M0, A, e1, E1, (Sat.bind h1).mono fun o2 e2 H2 _ s2 u2 E2 h2 y hy => ?_⟩
  rw [hj] at h2
  have hx2 := hx.hold E1.aM s2 u2
  cases o with
  | pl i => exact h2.elim
  | val d =>
    cases o2 with
    | pl i => cases d <;> exact h2.elim
    | val d2 =>
      cases d with
      | obj C ns ds =>
        cases d2 with
        | obj C' ns' ds' =>
          have h2 : Sat K H0 M0 A W (if C = m.C ∧ C' = m.C ∧ m.n = 2 then (match m.sem [.obj C ns ds, .obj C' ns' ds'] with
            | .ok (.bl k) _ => R.ok (.val (.bl k)) e2
            | _ => .bad) else .bad) e2 σ H2 (fun o e1 H1 => ∀ v, OpdR K M0 e1 σ H1 o v → Q v H1) := h2
          by_cases hc : C = m.C ∧ C' = m.C ∧ m.n = 2
          · rw [if_pos hc] at h2
            obtain ⟨hC, hC', hn⟩ := hc
            have rx : Rep K H2 (MM M0 e2 σ) (.obj C ns ds) x := hx2
            have ry : Rep K H2 (MM M0 e2 σ) (.obj C' ns' ds') y := hy
            have rx1 := rx
            have ry1 := ry
            unfold Rep at rx1 ry1
            obtain ⟨a1, dx, xs, rfl, _, g1, _⟩ := rx1
            obtain ⟨b1, dy, ys, rfl, _, g2, _⟩ := ry1
            refine ⟨a1, dx, _, b1, dy, _, rfl, rfl, by rw [← hC]; exact g1, by rw [← hC']; exact g2, fun E => ⟨by rw [hn]; rfl, MM M0 e2 σ, [.obj C ns ds, .obj C' ns' ds'], E2.mok, ⟨rfl, fun i d v h3 h4 => ⟨fun _ => ?_, fun z => nomatch z⟩⟩, ?_⟩⟩
            · obtain ⟨v', w1, w2⟩ := (RepL.cons rx (RepL.cons ry RepL.nil)).get h3
              rw [h4] at w1; cases w1
              exact w2
            · cases e : m.sem [.obj C ns ds, .obj C' ns' ds'] with
              | bad => rw [e] at h2; exact h2.elim
              | exc C f d out => rw [e] at h2; exact h2.elim
              | ok d out =>
                rw [e] at h2
                cases d <;> first | exact h2.elim | skip
                intro v H' st _ rv
                have st' : Stp NoA H2 H' := st.weak fun a ⟨i, z, _⟩ => nomatch z
                exact h2 H' st'.no Sub.refl (E2.keep st') v rv
          · rw [if_neg hc] at h2; exact h2.elim
        | _ => exact h2.elim
      | _ => cases d2 <;> exact h2.elim
/-- a op b of own objects, as a value -/
theorem e_ocmp {k j : Nat} {m : Mt} {op : CmpOp} {a b : Expr} {a' b' : IR} {pos : Pos} (hop : ∀ a b, compareOp op a b = richCompare op a b) (F : MtF X.prog X.w X.K X.mg X.base k m) (hn : m.name = (cmpInfo op).2.1) (hj : G.mts[j]? = some m) (hr : Room k X.A) (tk : Takes X W) (ha : PE X a (tI G W X.K a')) (hb : PE X b (tI G W X.K b'))
    (hm : behindInMarks op b = false) : PE X (.Compare a [op] [b] pos) (tI G W X.K (.ocmp j a' b')) := PE.by_ (pe_cmpR (op_ownI hop F hn hr tk) ha hb hm) fun σ H Q q => ocmp_read hj q
end
end Mp
set_option maxHeartbeats 4000000
namespace Mp
open PySem L2 PyProof.Rows
variable [TabsW] [GdW]
section
variable {X : Cx} {G : Ctx} {W : WX}
def tTl (G : Ctx) (W : WX) (K : PySem.W.Frag) : List (Str × IR) → TS
  | [] => tNext
  | (f, e) :: r => tSeq (sFld K (tVar 0) (tI G W K e) f) (tTl G W K r)
theorem tl_nil : PSs X [] (tTl G W X.K []) := pss_nil
theorem tl_cons {s : Stmt} {ss : List Stmt} {f : Str} {e : IR} {r : List (Str × IR)} (h : PS X s (sFld X.K (tVar 0) (tI G W X.K e) f)) (hr : PSs X ss (tTl G W X.K r)) : PSs X (s :: ss) (tTl G W X.K ((f, e) :: r)) := pss_cons h hr
/-- all the statements: the first ones, then the fields -/
inductive InitB (X : Cx) (G : Ctx) (W : WX) : List Stmt → List ST → List (Str × IR) → Prop where
  | last {ss : List Stmt} {r : List (Str × IR)} (h : PSs X ss (tTl G W X.K r)) : InitB X G W ss [] r
  | step {s : Stmt} {ss : List Stmt} {t : ST} {ts : List ST} {r : List (Str × IR)} (h : PS X s (tS G W X.K t)) (hr : InitB X G W ss ts r) : InitB X G W (s :: ss) (t :: ts) r
end
theorem putF_zip {f : Str} {v : V} : ∀ {ns : List Str} {xs : List V}, ns.length = xs.length → f ∉ ns → putF f v (ns.zip xs) = (ns ++ [f]).zip (xs ++ [v])
  | [], [], _, _ => rfl
  | [], _ :: _, h, _ => by simp at h
  | _ :: _, [], h, _ => by simp at h
  | n :: ns, x :: xs, h, hn => by
    simp only [List.mem_cons, not_or] at hn
    show putF f v ((n, x) :: ns.zip xs) = _
    unfold putF
    rw [if_neg (fun z => hn.1 z.symm), putF_zip (by simpa using h) hn.2]
    rfl
section
variable {K : PySem.W.Frag} {G : Ctx} {W : WX} {H0 : Hp} {M0 : AS} {o dx C : Addr} {σ : L2.St} {D : Ends}
theorem tl_run (hσ : σ[0]? = some (some (.ref o))) (cl : Cls K C) (ho : M0 o) (h0 : ¬ Lv H0 o) : ∀ (es : List (Str × IR)) (env : Env) (H : Hp) (ns : List Str) (xs : List V) (ds out : List Mp.D) (e' : Env), EnvR K H0 M0 NoA env σ H → H o = some (.ins C dx (ns.zip xs)) → ns.length = xs.length → xs.length + es.length < 900 →
    (ns ++ es.map (·.1)).Nodup → (∀ f, f ∈ es.map (·.1) → NoAttr K C f) → RepL K H (MM M0 env σ) ds xs → evs G (es.map (·.2)) env = .ok out e' →
    (∀ H' ys, Stp (fun a => MutAt env σ a ∨ a = o) H H' → H' o = some (.ins C dx ((ns ++ es.map (·.1)).zip ys)) → (ns ++ es.map (·.1)).length = ys.length → RepL K H' M0 (ds ++ out) ys → D.nx σ H') → tTl G W K es D σ H
  | [], env, H, ns, xs, ds, out, e', E, hH, hl, hn, nd, na, r, run, k => by
    rw [List.map_nil, evs] at run
    cases run
    refine k H xs Stp.refl (by simpa using hH) (by simpa using hl) ?_
    rw [List.append_nil]
    exact RepL.stp Stp.refl (fun _ z => .inl z) ds xs r
  | (f, e) :: es, env, H, ns, xs, ds, out, e', E, hH, hl, hn, nd, na, r, run, k => by
    rw [List.map_cons, evs] at run
    cases h1 : ev G e env with
    | bad => unfold R.take at run; rw [h1] at run; cases run
    | exc C' f' d e1 => unfold R.take at run; rw [h1] at run; cases run
    | ok op e1 =>
      unfold R.take at run
      rw [h1] at run
      have run : ((match takeO e1 op with
        | some (d, env') => R.ok d env'
        | none => .bad).bind fun d e1 => (evs G (List.map (fun p : Str × IR => p.2) es) e1).bind fun ds e2 => .ok (d :: ds) e2) = .ok out e' := run
      cases h2 : takeO e1 op with
      | none => rw [h2] at run; cases run
      | some p =>
        obtain ⟨d, e2⟩ := p
        rw [h2] at run
        have run : ((evs G (List.map (fun p : Str × IR => p.2) es) e2).bind fun ds e3 => R.ok (d :: ds) e3) = .ok out e' := run
        cases h3 : evs G (es.map (·.2)) e2 with
        | bad => rw [h3] at run; cases run
        | exc C' f' d e3 => rw [h3] at run; cases run
        | ok outs e3 =>
          rw [h3] at run
          cases run
          refine ⟨H0, M0, NoA, env, E, ?_⟩
          rw [h1]
          intro H1 s1 u1 E1 v hv
          obtain ⟨E2, rd, u2⟩ := E1.take hv h2
          have mE : ∀ {env : Env} {H : Hp}, EnvR K H0 M0 NoA env σ H → ¬ MutAt env σ o := fun {env H} E ⟨j, es, z1, z2⟩ => by
            obtain ⟨b, zs, b1, _, _, b4, _⟩ := E.own j es z1
            rw [z2] at b1; cases b1
            exact b4 ho
          have nW : ¬ WW NoA env σ o := fun z => z.elim id (mE E)
          have h1o : H1 o = some (.ins C dx (ns.zip xs)) := s1.st o _ hH nW nt_ins
          have hf : f ∉ ns := fun z => by
            rw [List.map_cons] at nd
            exact ((List.nodup_append.mp nd).2.2 f z f List.mem_cons_self) rfl
          refine ⟨_, hσ, o, C, dx, ns.zip xs, rfl, h1o, cl, na f List.mem_cons_self, ?_, ?_⟩
          · rw [List.length_zip]
            omega
          · rw [putF_zip hl hf]
            have E3 := E2.setM (o := HO.ins C dx ((ns ++ [f]).zip (xs ++ [v]))) (pl_ati h1o) ho id h0
            have st : Stp (MM M0 e2 σ) H1 (upd H1 o (.ins C dx ((ns ++ [f]).zip (xs ++ [v])))) := Stp.set (.inl ho) (pl_ati h1o)
            have rx1 : RepL K H1 (MM M0 e2 σ) ds xs := RepL.stp (s1.weak (WW.sub E.aM)) (fun a z => z.elim .inl fun q => .inr (u1.own a (u2.own a q))) ds xs r
            refine tl_run hσ cl ho h0 es e2 _ (ns ++ [f]) (xs ++ [v]) (ds ++ [d]) outs _ E3 upd_same (by simp [hl]) (by simp at hn ⊢; omega) (by simpa [List.append_assoc] using nd) (fun g hg => na g (List.mem_cons_of_mem _ hg))
              ((RepL.stp st (fun _ z => z) ds xs rx1).append (RepL.cons (Rep.stp st (fun _ z => z) d v rd) RepL.nil)) h3 fun H' ys s' a1 a2 a3 => ?_
            refine k H' ys ?_ (by simpa [List.append_assoc] using a1) (by simpa [List.append_assoc] using a2) (by simpa [List.append_assoc] using a3)
            refine ((s1.weak fun a z => ?_).trans (Stp.set (.inr rfl) (pl_ati h1o))).trans (s'.weak fun a z => ?_)
            · exact .inl (z.elim False.elim id)
            · exact z.elim (fun q => .inl (u1.own a (u2.own a q))) .inr
end
def startI (m : Nat) (v : V) (ds : List D) : Env := some (.dat (.raw v)) :: startE none m ds
/-- what an __init__ with these statements, then these fields, yields of ds: F says it -/
def InitF (G : Ctx) (m : Nat) (b : List ST) (es : List (Str × IR)) (F : List D → FR) : Prop := ∀ (v : V) (ds : List D), F ds = .bad ∨
  (∃ e out e', evSs G b (startI m v ds) = .nx e ∧ e[0]? = some (some (.dat (.raw v))) ∧ evs G (es.map (·.2)) e = .ok out e' ∧ F ds = .ok .non out) ∨ ∃ C f d e, evSs G b (startI m v ds) = .exc C f d e ∧ F ds = .exc C f d []
section
variable {X : Cx} {K : PySem.W.Frag} {G : Ctx} {W : WX}
/-- the whole body's reading -/
def tIb (G : Ctx) (W : WX) (K : PySem.W.Frag) : List ST → List (Str × IR) → TS
  | [], r => tTl G W K r
  | t :: ts, r => tSeq (tS G W K t) (tIb G W K ts r)
theorem InitB.pss {ss : List Stmt} {ts : List ST} {r : List (Str × IR)} (h : InitB X G W ss ts r) : PSs X ss (tIb G W X.K ts r) := by
  induction h with
  | last h => exact h
  | step h _ ih => exact pss_cons h ih
theorem ib_read {r : List (Str × IR)} {H0 : Hp} {M0 : AS} {D : Ends} : ∀ (ts : List ST) (env : Env) (σ : L2.St) (H : Hp), EnvR K H0 M0 NoA env σ H →
    SatS K H0 M0 NoA W (evSs G ts env) env σ H { D with nx := tTl G W K r D } → tIb G W K ts r D σ H
  | [], env, σ, H, E, q => by
    rw [evSs] at q
    exact q σ H Stp.refl SubS.refl E
  | t :: ts, env, σ, H, E, q => by
    rw [evSs] at q
    refine ⟨H0, M0, NoA, env, E, ?_⟩
    cases h : evS G t env with
    | nx e' =>
      rw [h] at q
      exact fun σ' H' s u E' => ib_read ts e' σ' H' E' (SatS.go (show SatS K H0 M0 NoA W (evSs G ts e') env σ H _ from q) s u)
    | bad => rw [h] at q; exact q
    | rt d e => rw [h] at q; exact q
    | rl d e => rw [h] at q; exact q
    | bk e => rw [h] at q; exact q
    | ct e => rw [h] at q; exact q
    | exc C f d e => rw [h] at q; exact q
theorem env0I {H : Hp} {M : AS} {a : Addr} {ds : List D} {rest : List V} {N : List Str} (hl : rest.length ≤ N.length) (hM : MOk M H) (ha : Lv H a) (r : RepL K H (fun b => M b ∨ b = a) ds rest) :
    EnvR K (fun b => if b = a then none else H b) (fun b => M b ∨ b = a) NoA (startI N.length (.ref a) ds) (some (.ref a) :: L2.start N rest) H ∧ ∀ b, ¬ MutAt (startI N.length (.ref a) ds) (some (.ref a) :: L2.start N rest) b := by
  have ar : ArgR K H (fun b => M b ∨ b = a) none ds rest := ⟨r.length, fun i d v h1 h2 => ⟨fun _ => by
    obtain ⟨v', g1, g2⟩ := r.get h1
    rw [h2] at g1; cases g1
    exact g2, fun z => nomatch z⟩⟩
  obtain ⟨E, noM⟩ := env0 (N := N) hl ⟨fun b z => z.elim (hM.al b) fun q => by rw [q]; exact ha, hM.tb⟩ ar
  have noM' : ∀ b, ¬ MutAt (startI N.length (.ref a) ds) (some (.ref a) :: L2.start N rest) b := fun b ⟨j, es, e1, e2⟩ => by
    cases j with
    | zero => unfold startI at e1; simp at e1
    | succ j => exact noM b ⟨j, es, by unfold startI at e1; simpa using e1, by simpa using e2⟩
  have sub : ∀ b, MM (fun b => M b ∨ b = a) (startI N.length (.ref a) ds) (some (.ref a) :: L2.start N rest) b → MM (fun b => M b ∨ b = a) (startE none N.length ds) (L2.start N rest) b := fun b z => z.elim .inl fun q => (noM' b q).elim
  refine ⟨⟨?_, fun b u h _ _ => ?_, fun b ⟨u, h1, h2⟩ => ⟨u, by dsimp only at h1; split at h1 <;> first | (cases h1; done) | exact h1, h2⟩, hM.tb, E.m0, fun b z => z.elim, fun b c z => z.elim, fun j d h => ?_, fun j es h => ?_, fun j es h => ?_, fun j k b es fs h1 h2 h3 h4 => (noM' b ⟨j, es, h1, h3⟩).elim, fun j k es fs h1 h2 => ?_, fun j C ns es h => ?_⟩, noM'⟩
  · unfold startI; simp [E.len]
  · split at h
    · cases h
    · exact h
  · cases j with
    | zero =>
      unfold startI at h
      simp at h
      subst h
      exact ⟨_, rfl, by unfold Rep; rfl⟩
    | succ j =>
      unfold startI at h
      obtain ⟨v, a1, a2⟩ := E.dat j d (by simpa using h)
      exact ⟨v, by simpa using a1, Rep.stp Stp.refl sub d v a2⟩
  · cases j with
    | zero => unfold startI at h; simp at h
    | succ j =>
      unfold startI at h
      obtain ⟨b, zs, a1, a2, a3, a4, a5⟩ := E.own j es (by simpa using h)
      exact (noM b ⟨j, es, by simpa using h, a1⟩).elim
  · cases j with
    | zero => unfold startI at h; simp at h
    | succ j =>
      unfold startI at h
      obtain ⟨b, zs, a1, ⟨i, a2, _⟩, _⟩ := E.io j es (by simpa using h)
      cases a2
  · cases j with
    | zero => unfold startI at h1; simp at h1
    | succ j =>
      unfold startI at h1
      obtain ⟨b, zs, a1, ⟨i, a2, _⟩, _⟩ := E.io j es (by simpa using h1)
      cases a2
  · cases j with
    | zero => unfold startI at h; simp at h
    | succ j =>
      unfold startI at h
      exact E.slf j C ns es (by simpa using h)
theorem start_consI {x : Str} {N : List Str} {v : V} {rest : List V} : L2.start (x :: N) (v :: rest) = some v :: L2.start N rest := by
  unfold L2.start
  simp
theorem init_read {n : Nat} {C : Str} {F : List D → FR} {b : List ST} {es : List (Str × IR)} {x : Str} {N : List Str} {vs : List V} {H : Hp} {Q : VK} {E : XK} (hF : InitF G N.length b es F) (hn : n ≤ N.length) (cl : Cls K (clsAt K C)) (nd : (es.map (·.1)).Nodup) (na : ∀ f, f ∈ es.map (·.1) → NoAttr K (clsAt K C) f) (hlen : es.length < 900)
    (h : spMk K C n (es.map (·.1)) F vs H Q E) : tIb G (fun cls d _ H' => E cls d H') K b es { nx := fun _ H' => Q .non H', rt := Q } (L2.start (x :: N) vs) H := by
  obtain ⟨M, ds, a, dx, rest, hM, rfl, hl, ha, nM, rr, h⟩ := h
  rw [start_consI]
  have ha' : Lv H a := Lv.ins ha
  obtain ⟨E0, noM⟩ := env0I (N := N) (by rw [hl]; exact hn) hM ha' rr
  have fl : ∀ {H' : Hp}, Stp (WW NoA (startI N.length (.ref a) ds) (some (.ref a) :: L2.start N rest)) H H' → Stp NoA H H' := fun {H'} s => s.weak fun b z => z.elim id fun q => (noM b q).elim
  refine ib_read b _ _ H E0 ?_
  rcases hF (.ref a) ds with z | ⟨e, out, e', z1, z2, z3, z4⟩ | ⟨C', f, d, e, z1, z2⟩
  · rw [z] at h; exact h.elim
  · rw [z4] at h
    rw [z1]
    intro σ' H' s u E'
    have s0 := fl s
    obtain ⟨v0, g1, g2⟩ := E'.dat 0 _ z2
    unfold Rep at g2
    subst g2
    refine tl_run (o := a) (dx := dx) (C := clsAt K C) g1 cl (.inr rfl) (nn_of (if_pos rfl)) es e H' [] [] [] out e' E' (by simpa using s0.st a _ ha id nt_ins) rfl (by simpa using hlen) (by simpa using nd) na RepL.nil z3 fun H'' ys s2 a1 a2 a3 => ?_
    refine h ys H'' ?_ (by simpa using a1) (by simpa using a2) (RepL.stp (M := fun b => M b ∨ b = a) Stp.refl (fun _ z => .inl z) out ys (by simpa using a3))
    refine ⟨fun b o2 e2 nb t => ?_, fun b hb => s2.mo b (s0.mo b hb), fun P q m h => s2.tb P q m (s0.tb P q m h)⟩
    refine s2.st b o2 (s0.st b o2 e2 id t) (fun z => ?_) t
    rcases z with z | z
    · rcases u.own b z with q | q
      · exact noM b q
      · exact q ⟨o2, e2, t⟩
    · exact nb z
  · rw [z2] at h
    rw [z1]
    intro σ' dd v H' s u E' hd r
    exact h dd v H' ((fl s).weak fun _ z => z.elim) hd (Rep.stp Stp.refl (fun _ z => .inl (.inl z)) d v r)
end
section
variable {P : Program} {w : World} {K : PySem.W.Frag} {mg : Str → Option Value} {base : Heap} {G : Ctx}
/-- THE RULE for an __init__ with defaults or without -/
theorem fn_init {x qual self C : Str} {params : Arguments} {body : List Stmt} {scope : Scope} {dvs : List V} {kws : List (Str × V)} {f : Addr} {fd : FuncData} {N ps : List Str} {k n : Nat} {b : List ST} {es : List (Str × IR)} {F : List D → FR} (Fd : FunD K x qual params body scope dvs kws f fd) (S : FnScope (self :: N) (self :: ps) scope) (hn : ps.length = n) (hnN : n ≤ N.length)
    (hF : InitF G N.length b es F) (cl : Cls K (clsAt K C)) (nd : (es.map (·.1)).Nodup) (na : ∀ f, f ∈ es.map (·.1) → NoAttr K (clsAt K C) f) (hlen : es.length < 900)
    (hb : ∀ (cdv : Value) (A : Around) (outer : List PySem.Env) (s : Shared) (H : Hp) (E : XK), Room k (A.deeper (envOfC qual scope s.heap.objs.size f cdv)) →
      InitB (cxOf (L2.CX P w) P w K mg base (self :: N) qual scope f cdv A outer s H E) G (fun cls d _ H' => E cls d H') body b es) :
    FnOk P w K mg base (L2.CX P w) (k + 1) f fd (self :: ps) (spMk K C n (es.map (·.1)) F) :=
  fund_ok Fd S (fun vs H Q E h => by
    obtain ⟨M, ds, a, dx, rest, _, rfl, hl, _⟩ := h
    simp [hl, hn]) fun cdv A outer s H vs Q E hr h => ⟨_, (hb cdv A outer s H E hr).pss, init_read hF hnN cl nd na hlen h⟩
end
end Mp
set_option maxHeartbeats 4000000
namespace Mp
open PySem L2 PyProof.Rows
variable [TabsW] [GdW]
section
variable {P : Program} {w : World} {K : PySem.W.Frag} {mg : Str → Option Value} {base : Heap} {k : Nat} {x : Str} {a : Addr} {fd : FuncData} {ps : List Str}
theorem fnF_mk {n : Nat} {io : Option Nat} {sem : List D → FR} (hd : (x == ("__debug__" : Str)) = false) (hm : mg x = some (.ref a)) (hk : PySem.W.keepIn K (.ref a) = true) (ok : FnOk P w K mg base (L2.CX P w) k a fd ps (spF K n io sem)) (hb : Binds K fd ps []) : FnF P w K mg base k x ⟨n, io, sem⟩ :=
  ⟨hd, a, fd, ps, _, [], [], hm, hk, ok, hb, .nil, fun vs H Q E h => by rw [List.append_nil]; exact h⟩
theorem frF_mk {n : Nat} {io : Option Nat} {sem : List D → FR} (hd : (x == ("__debug__" : Str)) = false) (hm : mg x = some (.ref a)) (hk : PySem.W.keepIn K (.ref a) = true) (ok : FnOk P w K mg base (L2.CX P w) k a fd ps (spFr K n sem)) (hb : Binds K fd ps []) : FrF P w K mg base k x ⟨n, io, sem⟩ :=
  ⟨hd, a, fd, ps, _, [], [], hm, hk, ok, hb, .nil, fun vs H Q E h => by rw [List.append_nil]; exact h⟩
theorem mtF_mk {C m : Str} {n : Nat} {sem : List D → FR} (cl : Cls K (clsAt K C)) (hm : Meth K (clsAt K C) m a) (ok : FnOk P w K mg base (L2.CX P w) k a fd ps (spF K n none sem)) (hb : Binds K fd ps []) : MtF P w K mg base k ⟨C, m, n, sem⟩ :=
  ⟨cl, a, fd, ps, _, [], [], hm, ok, hb, .nil, fun vs H Q E h => by rw [List.append_nil]; exact h⟩
theorem mkF_mk {C : Str} {n : Nat} {ns : List Str} {sem : List D → FR} (hd : (x == ("__debug__" : Str)) = false) (hm : mg x = some (.ref (clsAt K C))) (M : Mk K (clsAt K C) a) (ok : FnOk P w K mg base (L2.CX P w) k a fd ps (spMk K C n ns sem)) (hb : Binds K fd ps []) : MkF P w K mg base k x ⟨C, n, ns, sem⟩ :=
  ⟨hd, a, fd, ps, _, [], [], hm, M, ok, hb, .nil, fun v vs H Q E h => by rw [List.append_nil]; exact h⟩
theorem kit_self {C : Addr} : PySem.W.kitOne K (.ref C) (.ref C) = some true := by unfold PySem.W.kitOne; simp
theorem kit_ct {C : Addr} {T : String} {r : Bool} (hT : PySem.W.kitMeta T = true) (h : PySem.W.subIn K (.ref C) (.type T) = some r) : PySem.W.kitOne K (.ref C) (.type T) = some r := by
  unfold PySem.W.kitOne PySem.W.kitCls
  rw [if_neg (by simp)]
  dsimp only
  rw [if_pos hT]
  exact h
theorem kit_tc {C : Addr} {T : String} {r : Bool} (h0 : PySem.W.isClsIn K C = true) (h1 : PySem.W.typeIn K (.ref C) = some (.type "type")) (h : PySem.W.subIn K (.type T) (.ref C) = some r) : PySem.W.kitOne K (.type T) (.ref C) = some r := by
  unfold PySem.W.kitOne PySem.W.kitCls
  have h0' : (PySem.W.clsIn K C).isSome = true := h0
  rw [if_neg (by simp)]
  dsimp only
  rw [h0', h1]
  exact h
/-- what law(script) promises: for a list of at most 63 ints the answer is True -/
def spLaw (K : PySem.W.Frag) : Sp := fun vs H Q _ => ∃ (a : Addr) (ns : List Int), (∀ P q, (P, q) ∈ TabsW.T → LamX.TabS H P q) ∧ vs = [.ref a] ∧ SqL K H a (ns.map V.int) ∧ ns.length ≤ 63 ∧ ∀ H', Q (.bl true) H'
theorem law_imp {sem : List D → FR} (math : ∀ ns : List Int, ns.length ≤ 63 → ∃ out, sem [.lst (ns.map .int)] = .ok (.bl true) out) {vs : List V} {H : Hp} {Q : VK} {E : XK} (h : spLaw K vs H Q E) : spF K 1 none sem vs H Q E := by
  obtain ⟨a, ns, hT, rfl, hS, hl, q⟩ := h
  have r : Rep K H NoA (.lst (ns.map .int)) (.ref a) := by
    unfold Rep
    exact ⟨a, _, rfl, RdK.ofS id hS, RepL.of_ints ns⟩
  refine ⟨rfl, NoA, [.lst (ns.map .int)], ⟨fun _ z => z.elim, hT⟩, ⟨rfl, fun i d v h1 h2 => ⟨fun _ => ?_, fun z => nomatch z⟩⟩, ?_⟩
  · obtain ⟨v', g1, g2⟩ := (RepL.cons r RepL.nil).get h1
    rw [h2] at g1; cases g1
    exact g2
  · obtain ⟨out, e⟩ := math ns hl
    rw [e]
    intro v H' _ _ rv
    unfold Rep at rv
    rw [rv]
    exact q H'
end
end Mp
set_option maxHeartbeats 4000000
namespace Mp
open PySem L2
variable [TabsW] [GdW]
section
variable {G : Ctx}
theorem R.bind_ok {α β : Type} {a : α} {e : Env} {k : α → Env → R β} : (R.ok a e).bind k = k a e := rfl
theorem eva_vals {io : Option Nat} : ∀ (es : List IR) (n : Nat) (env : Env), (∀ i, io = some i → i < n) → eva G io n es env = (evs G es env).bind fun ds e1 => .ok (ds.map Opd.val, []) e1
  | [], n, env, h => by rw [eva, evs]; rfl
  | e :: es, n, env, h => by
    rw [eva, evs, if_neg (fun z => Nat.lt_irrefl _ (h n z))]
    cases (ev G e env).take with
    | bad => rfl
    | exc C f d e1 => rfl
    | ok d e1 =>
      show ((eva G io (n + 1) es e1).bind fun p e2 => R.ok (Opd.val d :: p.1, p.2) e2) = ((evs G es e1).bind fun ds e2 => R.ok (d :: ds) e2).bind fun ds e1 => .ok (ds.map Opd.val, []) e1
      rw [eva_vals es (n + 1) e1 fun i z => Nat.lt_succ_of_lt (h i z)]
      cases evs G es e1 with
      | bad => rfl
      | exc C f d e1 => rfl
      | ok ds e2 => rfl
theorem rd_vals {env : Env} : ∀ (ds : List D), (ds.map Opd.val).mapM (rdO env) = some ds
  | [] => rfl
  | d :: ds => by rw [List.map_cons, List.mapM_cons, rd_vals ds]; rfl
def runF (env : Env) : FR → R Opd
  | .ok d _ => .ok (.val d) env
  | .exc C f d _ => .exc C f d env
  | .bad => .bad
/-- a call, nothing handed over -/
theorem ev_call {j : Nat} {f : Fn} {es : List IR} {env : Env} (hj : G.fns[j]? = some f) (hio : f.io = none) (hn : es.length = f.n) : ev G (.call j es) env = (evs G es env).bind fun ds e1 => runF e1 (f.sem ds) := by
  rw [ev, hj]
  dsimp only
  rw [if_pos hn, hio, eva_vals (io := none) es 0 env (fun i z => by cases z)]
  cases evs G es env with
  | bad => rfl
  | exc C f d e1 => rfl
  | ok ds e1 =>
    show (match (ds.map Opd.val).mapM (rdO e1) with
      | some ds => frR e1 none [] (f.sem ds)
      | none => .bad) = runF e1 (f.sem ds)
    rw [rd_vals]
    dsimp only
    cases f.sem ds <;> rfl
/-- a call whose first argument is a list that it changes -/
theorem ev_call_io {j i : Nat} {f : Fn} {es : List IR} {env : Env} {ds : List D} (hj : G.fns[j]? = some f) (hio : f.io = some 0) (hn : es.length + 1 = f.n) (hi : env[i]? = some (some (.own ds)) ∨ env[i]? = some (some (.io ds))) :
    ev G (.call j (.v i :: es)) env = (evs G es env).bind fun vs e1 => match (cellAt e1 i).map content with
      | some d0 => frR e1 (some 0) [i] (f.sem (d0 :: vs))
      | none => .bad := by
  rw [ev, hj]
  dsimp only
  rw [if_pos (by rw [List.length_cons]; exact hn), hio, eva, if_pos rfl]
  have hv : ev G (.v i) env = .ok (.pl i) env := by
    rw [ev]
    unfold cellAt
    rcases hi with h | h <;> (rw [h]; rfl)
  rw [hv]
  show ((eva G (some 0) 1 es env).bind fun p e2 => R.ok (Opd.pl i :: p.1, i :: p.2) e2).bind _ = _
  rw [eva_vals es 1 env fun i z => by cases z; decide]
  cases evs G es env with
  | bad => rfl
  | exc C f d e1 => rfl
  | ok vs e1 =>
    show (match (Opd.pl i :: vs.map Opd.val).mapM (rdO e1) with
      | some ds => frR e1 (some 0) [i] (f.sem ds)
      | none => .bad) = _
    rw [List.mapM_cons, rd_vals]
    show (match (do let r ← (cellAt e1 i).map content; let rs ← some vs; pure (r :: rs)) with
      | some ds => frR e1 (some 0) [i] (f.sem ds)
      | none => R.bad) = (match (cellAt e1 i).map content with
      | some d0 => frR e1 (some 0) [i] (f.sem (d0 :: vs))
      | none => .bad)
    cases (cellAt e1 i).map content with
    | none => rfl
    | some d0 => rfl
theorem evq_c {d : D} {env : Env} : ev G (.c d) env = (.ok (.val d) env) := by first | (rw [ev]; done) | (rw [ev]; rfl)
theorem evq_v {i : Nat} {env : Env} : ev G (.v i) env = (match cellAt env i with
    | some (.dat d) => .ok (.val d) env
    | some (.own _) => .ok (.pl i) env
    | some (.io _) => .ok (.pl i) env
    | _ => .bad) := by first | (rw [ev]; done) | (rw [ev]; rfl)
theorem evq_bin {op : BOp} {a : IR} {b : IR} {env : Env} : ev G (.bin op a b) env = ((ev G a env).bind fun x e1 => (ev G b e1).bind fun y e2 => match rdO e2 x, rdO e2 y with
    | some p, some q => lift e2 (binD op p q)
    | _, _ => .bad) := by first | (rw [ev]; done) | (rw [ev]; rfl)
theorem evq_cmp {op : COp} {a : IR} {b : IR} {env : Env} : ev G (.cmp op a b) env = ((ev G a env).bind fun x e1 => (ev G b e1).bind fun y e2 => match rdO e2 x, rdO e2 y with
    | some p, some q => lift e2 ((cmpD op p q).map .bl)
    | _, _ => .bad) := by first | (rw [ev]; done) | (rw [ev]; rfl)
theorem evq_chn {op1 : COp} {op2 : COp} {a : IR} {b : IR} {c : IR} {env : Env} : ev G (.chn op1 op2 a b c) env = ((ev G a env).bind fun x e1 => (ev G b e1).bind fun y e2 => match rdO e2 x, rdO e2 y with
    | some p, some q => (match cmpD op1 p q with
      | some true => (ev G c e2).bind fun z e3 => (match rdO e3 y, rdO e3 z with
        | some p, some q => lift e3 ((cmpD op2 p q).map .bl)
        | _, _ => .bad)
      | some false => .ok (.val (.bl false)) e2
      | none => .bad)
    | _, _ => .bad) := by first | (rw [ev]; done) | (rw [ev]; rfl)
theorem evq_and_ {a : IR} {b : IR} {env : Env} : ev G (.and_ a b) env = ((ev G a env).bind fun x e1 => match (rdO e1 x).bind truD with
    | some true => ev G b e1
    | some false => .ok x e1
    | none => .bad) := by first | (rw [ev]; done) | (rw [ev]; rfl)
theorem evq_or_ {a : IR} {b : IR} {env : Env} : ev G (.or_ a b) env = ((ev G a env).bind fun x e1 => match (rdO e1 x).bind truD with
    | some true => .ok x e1
    | some false => ev G b e1
    | none => .bad) := by first | (rw [ev]; done) | (rw [ev]; rfl)
theorem evq_not_ {a : IR} {env : Env} : ev G (.not_ a) env = ((ev G a env).bind fun x e1 => match (rdO e1 x).bind truD with
    | some b => .ok (.val (.bl (!b))) e1
    | none => .bad) := by first | (rw [ev]; done) | (rw [ev]; rfl)
theorem evq_neg {a : IR} {env : Env} : ev G (.neg a) env = ((ev G a env).bind fun x e1 => match x with
    | .val (.int i) => .ok (.val (.int (-i))) e1
    | _ => .bad) := by first | (rw [ev]; done) | (rw [ev]; rfl)
theorem evq_ite {t : IR} {a : IR} {b : IR} {env : Env} : ev G (.ite t a b) env = ((truR (ev G t env)).bind fun c e1 => if c then ev G a e1 else ev G b e1) := by first | (rw [ev]; done) | (rw [ev]; rfl)
theorem evq_tup {es : List IR} {env : Env} : ev G (.tup es) env = ((evs G es env).bind fun ds e1 => if ds.length ≤ BIG then .ok (.val (.tup ds)) e1 else .bad) := by first | (rw [ev]; done) | (rw [ev]; rfl)
theorem evq_lst {es : List IR} {env : Env} : ev G (.lst es) env = ((evs G es env).bind fun ds e1 => if ds.length ≤ BIG then .ok (.val (.lst ds)) e1 else .bad) := by first | (rw [ev]; done) | (rw [ev]; rfl)
theorem evq_ix {a : IR} {b : IR} {env : Env} : ev G (.ix a b) env = ((ev G a env).bind fun x e1 => (ev G b e1).bind fun y e2 => match rdO e2 x, rdO e2 y with
    | some p, some q => lift e2 (ixD p q)
    | _, _ => .bad) := by first | (rw [ev]; done) | (rw [ev]; rfl)
theorem evq_sl {a : IR} {lo : Option IR} {hi : Option IR} {env : Env} : ev G (.sl a lo hi) env = ((ev G a env).bind fun x e1 => (evo G lo e1).bind fun i e2 => (evo G hi e2).bind fun j e3 => match rdO e3 x with
    | some p => lift e3 (slD p i j)
    | none => .bad) := by first | (rw [ev]; done) | (rw [ev]; rfl)
theorem evq_meth {j : Nat} {o : IR} {es : List IR} {env : Env} : ev G (.meth j o es) env = (match G.mts[j]? with
    | none => .bad
    | some m => (ev G o env).bind fun x e1 => match x with
      | .val (.obj C ns ds) => if C = m.C ∧ es.length + 1 = m.n ∧ ns.contains m.name = false then (evs G es e1).bind fun vs e2 => frR e2 none [] (m.sem (.obj C ns ds :: vs)) else .bad
      | _ => .bad) := by first | (rw [ev]; done) | (rw [ev]; rfl)
theorem evq_make {j : Nat} {es : List IR} {env : Env} : ev G (.make j es) env = (match G.mks[j]? with
    | none => .bad
    | some m => if es.length = m.n then (evs G es env).bind fun vs e1 => (match m.sem vs with
      | .ok _ out => .ok (.val (.obj m.C m.ns out)) e1
      | .exc C f d _ => .exc C f d e1
      | .bad => .bad) else .bad) := by first | (rw [ev]; done) | (rw [ev]; rfl)
theorem evq_blt {b : Blt} {es : List IR} {env : Env} : ev G (.blt b es) env = ((evr G es env).bind fun os e1 => match os.mapM (rdO e1) with
    | some ds => lift e1 (bltD b ds)
    | none => .bad) := by first | (rw [ev]; done) | (rw [ev]; rfl)
theorem evq_isin {a : IR} {ts : List Ty} {env : Env} : ev G (.isin a ts) env = ((ev G a env).bind fun x e1 => match rdO e1 x with
    | some d => if knownB G.cls d then .ok (.val (.bl (ts.any fun t => tyD t d))) e1 else .bad
    | none => .bad) := by first | (rw [ev]; done) | (rw [ev]; rfl)
theorem evq_fld {o : IR} {f : Str} {env : Env} : ev G (.fld o f) env = ((ev G o env).bind fun x e1 => match rdO e1 x with
    | some (.obj C ns ds) => if G.cls.contains C then lift e1 ((ns.zip ds).lookup f) else .bad
    | _ => .bad) := by first | (rw [ev]; done) | (rw [ev]; rfl)
theorem evq_app {i : Nat} {e : IR} {env : Env} : ev G (.app i e) env = (if ownB env i then (ev G e env).take.bind fun d e1 => match e1[i]? with
    | some (some (.own ds)) => if ds.length < BIG then .ok (.val .non) (e1.set i (some (.own (ds ++ [d])))) else .bad
    | _ => .bad
    else .bad) := by first | (rw [ev]; done) | (rw [ev]; rfl)
theorem evq_lrng {e : IR} {env : Env} : ev G (.lrng e) env = ((ev G e env).rd.bind fun d e1 => match d with
    | .int j => if -1000000 ≤ j ∧ j ≤ BIG then .ok (.val (.lst (iotaD 0 j.toNat))) e1 else .bad
    | _ => .bad) := by first | (rw [ev]; done) | (rw [ev]; rfl)
theorem evq_ocmp {j : Nat} {a : IR} {b : IR} {env : Env} : ev G (.ocmp j a b) env = ((ev G a env).bind fun x e1 => (ev G b e1).bind fun y e2 => match G.mts[j]?, x, y with
    | some m, .val (.obj C ns ds), .val (.obj C' ns' ds') => if C = m.C ∧ C' = m.C ∧ m.n = 2 then (match m.sem [.obj C ns ds, .obj C' ns' ds'] with
      | .ok (.bl k) _ => .ok (.val (.bl k)) e2
      | _ => .bad) else .bad
    | _, _, _ => .bad) := by first | (rw [ev]; done) | (rw [ev]; rfl)
end
end Mp
set_option maxHeartbeats 4000000
namespace Mp
open PySem L2
variable [TabsW] [GdW]
theorem back_same {env0 env' : Env} {i : Nat} (h : env'.set i none = env0.set i none) : backE env0 env' [i] = env0 := by
  unfold backE
  unfold backE
  have e : env'.set i (env0[i]?).join = env0.set i (env0[i]?).join := by
    have e1 : env'.set i (env0[i]?).join = (env'.set i none).set i (env0[i]?).join := by rw [List.set_set]
    rw [e1, h, List.set_set]
  rw [e]
  by_cases hi : i < env0.length
  · rw [List.getElem?_eq_getElem hi]
    simp
  · rw [List.set_eq_of_length_le (by omega)]
theorem free_wipe {env : Env} {i : Nat} (hi : i < env.length) : freeB (env.set i none) i = true := by
  unfold freeB
  rw [List.getElem?_set_self hi]
end Mp
set_option maxHeartbeats 4000000
namespace Mp
open PySem L2
variable [TabsW] [GdW]
/-- what a comprehension makes of what is walked: left out, or taken as something -/
inductive LcR (Skip : D → Prop) (Take : D → D → Prop) : List D → List D → Prop where
  | nil : LcR Skip Take [] []
  | skip {d ds xs} : Skip d → LcR Skip Take ds xs → LcR Skip Take (d :: ds) xs
  | take {d x ds xs} : Take d x → LcR Skip Take ds xs → LcR Skip Take (d :: ds) (x :: xs)
/-- the test of a turn -/
def tstR (T : Option (Env → R Bool)) (e : Env) : R Bool := match T with
  | none => .ok true e
  | some t => t e
theorem lcLoop_cons {own : List Nat} {tg : Tgt} {T : Option (Env → R Bool)} {E : Env → R D} {d : D} {ds : List D} {env e1 : Env} (hb : bindT tg d (wipeE env own) = some e1) :
    lcLoop own tg T E (d :: ds) env = (tstR T e1).bind fun b env2 => if b then (E env2).bind fun x env3 => (lcLoop own tg T E ds env3).bind fun xs env4 => .ok (x :: xs) env4 else lcLoop own tg T E ds env2 := by
  rw [lcLoop, hb]
  dsimp only
  cases T <;> rfl
theorem LcR.map {Skip : D → Prop} {Take : D → D → Prop} {g : D → D} (h1 : ∀ d, ¬ Skip d) (h2 : ∀ d x, Take d x → x = g d) {ds xs : List D} (h : LcR Skip Take ds xs) : xs = ds.map g := by
  induction h with
  | nil => rfl
  | skip h _ _ => exact absurd h (h1 _)
  | take h _ ih => rw [h2 _ _ h, ih]; rfl
theorem LcR.len {Skip : D → Prop} {Take : D → D → Prop} (h1 : ∀ d, ¬ Skip d) {ds xs : List D} (h : LcR Skip Take ds xs) : xs.length = ds.length := by
  induction h with
  | nil => rfl
  | skip h _ _ => exact absurd h (h1 _)
  | take h _ ih => rw [List.length_cons, List.length_cons, ih]
theorem LcR.all {Skip : D → Prop} {Take : D → D → Prop} {P : D → Prop} (h2 : ∀ d x, Take d x → P x) {ds xs : List D} (h : LcR Skip Take ds xs) : ∀ x, x ∈ xs → P x := by
  induction h with
  | nil => intro x h; cases h
  | skip _ _ ih => exact ih
  | take h _ ih =>
    intro x hx
    rcases List.mem_cons.mp hx with rfl | hx
    · exact h2 _ _ h
    · exact ih x hx
end Mp
set_option maxHeartbeats 2000000
namespace PySem
namespace ErrBadPart
open PySem.W PySem.Calls PyProof.Rows PySem.HandSPX
def iA (p1 p2 : Pos) : Arguments := { posonlyargs := [], args := [{ arg := "self", annotation := none, pos := p1 }, { arg := "part", annotation := none, pos := p2 }], vararg := none, kwonlyargs := [], kw_defaults := [], kwarg := none, defaults := [] }
def iB (q1 q2 q3 q4 : Pos) : List Stmt := [.Assign [.Attribute (.Name "self" q1) "part" q2] (.Name "part" q3) q4]
def iS : Scope := { kind := .function, names := [(PySem.Str.ofString "self", .local), (PySem.Str.ofString "part", .local)], isGenerator := false, isCoroutine := false, more := [] }
/-- what the written part says of Low, at C, and of its __init__, at fI -/
structure LowTxt (K : Frag) (mg : Str → Option Value) (C fI : Addr) : Prop where
  gC : mg "BadPart" = some (.ref C)
  cls : ∃ nm q N bs bm sn sub ab col dd k0 k1 k2 k3 k5, K.lookup C = some (excClassObj nm q C N bs bm true sn sub ab col dd k0 k1 k2 k3 k5 "ValueError.__new__") ∧ refsVE bm = true
  sa : findIn K (.ref C) "__setattr__" = some (some (.builtin "object.__setattr__"))
  ga : findIn K (.ref C) "__getattribute__" = some (some (.builtin "BaseException.__getattribute__"))
  gg : findIn K (.ref C) "__getattr__" = some none
  noN : findIn K (.ref C) "part" = some none
  iC : findIn K (.ref C) "__init__" = some (some (.ref fI))
  tC : typeIn K (.ref fI) = some (.type "function")
  kC : keepIn K (.ref C) = true
  exC : subIn K (.ref C) (.type "BaseException") = some true
  tyC : typeIn K (.ref C) = some (.type "type")
  hdC : hasDictIn K C = true
  te : exmOne K (.ref C) (.ref C) = some true
  fn : ∃ (oc : Value) (od : Option Addr) (doc pm : Value) (an : Option Addr) (cdv ct : Value) (osl : Array (Option Value)) (p1 p2 q1 q2 q3 q4 : Pos),
    K.lookup fI = some ⟨oc, od, .func (fnOf "__init__" "BadPart.__init__" (iA p1 p2) (iB q1 q2 q3 q4) iS .none .none doc pm an cdv ct), osl⟩ ∧ codeIn K cdv "BadPart.__init__" = true
theorem one_size (v : Value) : [v].length ≤ sizeLine := by
  rw [sizeLine_eq]
  exact (by decide : 1 ≤ 16777216)
theorem ldC {M : Model} {s : Shared} {name : Str} {scope : Scope} {L a : Addr} {cd : Value} {m : Str → Option Value} {x : Str} {pos : Pos} {v : Value} {Q : Value → Shared → Prop} {A : Around} {E : Value → Shared → Prop} (hn : s.heap.Ns L m) (hv : m x = some v) (h : Q v s)
    (hk : scope.kind = .function := by rfl) (hl : (envOfC name scope L a cd).kindOf x = some .local := by rfl) (hd : (x == ("__debug__" : Str)) = false := by decide) :
    wpAny M A (eval (.Name x pos) (envOfC name scope L a cd)) Q E s := wpAny_Name (wpAny_loadName_local hk hl hn hv h) hd
/-- what __init__ leaves of a fresh exception at x -/
structure InitEnd (h h' : Heap) (x C dx t1 : Addr) (v : Value) : Prop where
  keep : ∀ b o, b ≠ x → h.get? b = some o → h'.get? b = some o
  obj : h'.get? x = some { cls := .ref C, dict := some dx, data := .fields #[.ref t1, .none, .none, .none, .bool false, .none] }
  dbig : h.objs.size ≤ dx
  dne : dx ≠ x
  ns : h'.Ns1 dx (fun y => if y = "part" then some v else none)
/-- a made Low -/
structure OwnMade (h h' : Heap) (e C d : Addr) (v : Value) : Prop where
  keep : ∀ b o, h.get? b = some o → h'.get? b = some o
  new : h.objs.size ≤ e
  obj : ∃ oe vs, h'.get? e = some oe ∧ oe.cls = .ref C ∧ oe.dict = some d ∧ oe.data = .fields vs ∧ vs[1]? = some .none
  dbig : h.objs.size ≤ d
  dne : d ≠ e
  ns : h'.Ns1 d (fun y => if y = "part" then some v else none)
section
variable {prog : Program} {w : World} {A : Around} {E : Value → Shared → Prop} {R : Result → Shared → Prop} {s : Shared} {K : Frag} {mg : Str → Option Value} {C fI : Addr}
theorem low_init (T : LowTxt K mg C fI) {x t0 : Addr} {v : Value} (X : K.In s.heap) (hlim : s.heap.NoLimit) (hx : s.heap.get? x = some (excO C t0)) (hnx : K.lookup x = none) (hroom : A.depth < recursionLimit)
    (hq : ∀ h' tk dx, InitEnd s.heap h' x C dx t0 v → R (.ok (.ret .none)) { s with heap := h', toks := tk }) :
    codeAny (model prog w) A (.call (.ref fI) ⟨[.ref x, v], []⟩) R s := by
  obtain ⟨oc, od, doc, pm, an, cdv, ct, osl, p1, p2, q1, q2, q3, q4, ho, hcd⟩ := T.fn
  obtain ⟨nm, q, N, bs, bm, sn, sub, ab, col, dd, k0, k1, k2, k3, k5, hC, hbm⟩ := T.cls
  have hcl : clsIn K C = some { name := nm, bases := bs, mro := .ref C :: bm, ns := N, qualname := q, hasDict := true, slotNames := sn, subclasses := sub, abstract := ab, collection := col, hasDel := false } := by unfold clsIn; rw [hC] <;> rfl
  refine Att.call_fn (binds := [("self", .ref x), ("part", v)]) X hlim ho hcd hroom (BindsTo.of_eq (by first | rfl | with_unfolding_all rfl)) (by first | rfl | decide | with_unfolding_all rfl) (fun s₁ IC => ?_) rfl rfl rfl
  obtain ⟨h₁, tk₁, rfl⟩ := IC.toInCall.same
  have k : ∀ b o, s.heap.get? b = some o → h₁.get? b = some o := IC.toInCall.keep
  have hn := IC.toInCall.ns
  have hxL : s.heap.objs.size ≠ x := Nat.ne_of_gt (Heap.lt_size hx)
  have X₁ : K.In h₁ := X.keeps k
  have hx₁ := k _ _ hx
  -- self.by = by
  show wpAny _ _ (execs _ _) _ _ _
  refine wpAny_execs_cons (plainObj_wpAny_Assign_Attribute ?_)
  refine ldC (v := v) hn (by first | rfl | with_unfolding_all rfl | kernel_rfl) (ldC (v := .ref x) hn (by first | rfl | with_unfolding_all rfl | kernel_rfl) ?_)
  refine set_plain X₁ (ox := excO C t0) (od := none) ⟨hx₁, rfl, rfl, trivial⟩ T.sa ?_
  refine exc_osa X₁ hx₁ hcl (show refsVE (.ref C :: bm) = true from hbm) rfl T.noN (fun h₃ tk₃ dx k₃ dn dne hx₃ hn₃ => ?_)
  show wpAny _ _ (execs _ _) _ _ _
  have z : s.heap.objs.size < h₁.objs.size := hn.lt
  exact wpAny_execs_nil (hq h₃ tk₃ dx ⟨fun b o hb e => k₃ b o hb (k b o e), hx₃, Nat.le_of_lt (Nat.lt_of_lt_of_le z dn), dne, hn₃⟩)
theorem low_made (T : LowTxt K mg C fI) {v : Value} (X : K.In s.heap) (hlim : s.heap.NoLimit) (hroom : A.depth + 1 < recursionLimit)
    (hq : ∀ h' tk e d, OwnMade s.heap h' e C d v → R (.ok (.ret (.ref e))) { s with heap := h', toks := tk }) :
    codeAny (model prog w) A (.call (.ref C) ⟨[v], []⟩) R s := by
  obtain ⟨nm, q, N, bs, bm, sn, sub, ab, col, dd, k0, k1, k2, k3, k5, hC, hbm⟩ := T.cls
  obtain ⟨hp, g, dr, tk, os⟩ := s
  have k : ∀ b o, hp.get? b = some o → ((hp.push (kdv_tup [v])).push (excO C hp.objs.size)).get? b = some o := fun b o e => Heap.get?_push_of_some _ (Heap.get?_push_of_some _ e)
  have hget : ((hp.push (kdv_tup [v])).push (excO C hp.objs.size)).get? (hp.objs.size + 1) = some (excO C hp.objs.size) := by heap_get
  have hnx : K.lookup (hp.objs.size + 1) = none := by
    cases e : K.lookup (hp.objs.size + 1) with
    | none => rfl
    | some o =>
      have z : hp.get? (hp.objs.size + 1) = some o := X _ _ e
      exact absurd (Nat.lt_of_succ_lt (Heap.lt_size z)) (Nat.lt_irrefl _)
  refine call_own F.excBase_ValueError (fun X => refsVE_contains X bm hbm) (X _ _ hC) (looks_findIn X T.iC) (fun self => bind_fn X self T.tC) (one_size v) ?_
  refine low_init (s := ⟨(hp.push (kdv_tup [v])).push (excO C hp.objs.size), g, dr, tk, os⟩) T (X.keeps k) (hlim.keeps k) hget hnx ?_ fun h' tk' dx ⟨k', hx, dn, dne, hns⟩ => ?_
  · show A.depth + 1 < recursionLimit
    exact hroom
  · have old : ∀ b o, hp.get? b = some o → h'.get? b = some o := fun b o e => k' b o (Nat.ne_of_lt (Nat.lt_succ_of_lt (Heap.lt_size e))) (k b o e)
    have z : hp.objs.size + 1 + 1 ≤ dx := by
      first
        | (simpa only [Heap.size_push] using dn)
        | exact dn
        | (have q := dn; rw [Heap.size_push, Heap.size_push] at q; exact q)
    exact ⟨rfl, hq h' tk' (hp.objs.size + 1) dx ⟨old, Nat.le_succ _, ⟨_, _, hx, rfl, rfl, rfl, rfl⟩, Nat.le_trans (Nat.le_trans (Nat.le_succ _) (Nat.le_succ _)) z, dne, hns⟩⟩
end
end ErrBadPart
end PySem
namespace L2
open PySem PySem.Spec PyProof.Rows
theorem relO_low_BadPart {v : V} {v' : Value} (r : RelV v v') (f : Str) : RelO (List.lookup f [(("part" : Str), v)]) (if f = "part" then some v' else none) := by
  by_cases hw : f = "part"
  · subst hw
    rw [if_pos rfl]
    have q : List.lookup ("part" : Str) [(("part" : Str), v)] = some v := by simp [List.lookup]
    rw [q]
    exact r
  · rw [if_neg hw]
    have qw : (f == ("part" : Str)) = false := by simpa using hw
    have q2 : List.lookup f [(("part" : Str), v)] = none := by simp [List.lookup, qw]
    rw [q2]
    trivial
section
variable {X : Cx} {C fI : Addr}
/-- Low(e) -/
def tMkLow_BadPart (C : Addr) (ta : TA) : St → Hp → XK → Prop := fun σ H Q => ta σ H fun vs H1 => ∃ v, vs = [v] ∧ ∀ d, H1 d = none → Q (.ref C) (some d) (upd H1 d (.xd [(("part" : Str), v)]))
theorem pmk_low_BadPart {a : Expr} {ta : TA} {p pos : Pos} {k : Nat} (T : PySem.ErrBadPart.LowTxt X.K X.mg C fI) (hr : Room k X.A) (ha : PA X [a] ta) (hg : Gl X "BadPart" := by rfl)
    (he : starEach (a :: []) X.env = (false, eval a X.env) :: starEach [] X.env := by rfl) (hpl : (backTo pos (starEach [] X.env)).any (·.1) = false := by rfl) :
    PMk X (.Call (.Name "BadPart" p) [a] [] pos) (tMkLow_BadPart C ta) := by
  intro pins s σ H Q I h
  refine wpAny_Call_Name_kw (ld_glob I hg T.gC ?_)
  refine PySem.W.callWith_K (h₀ := X.base) I.ok.mod.kin T.kC (thn (ha.run pos pins s σ H _ I h) fun us s1 hh => ?_) he hpl
  obtain ⟨vs, H1, I1, r1, v, ev, q1⟩ := hh
  subst ev
  refine ⟨I1.kIn, ?_⟩
  cases r1 with
  | cons rv rn =>
    rename_i v' us'
    cases rn
    show wpAny _ _ (call (.ref C) [v']) _ _ _
    have hlim := I1.nolimit
    obtain ⟨hp, g, dr, tk, os⟩ := s1
    refine wpAny_call (PySem.ErrBadPart.low_made T I1.kIn hlim (by have := hr.dp; omega) fun h' tk' e d M => ?_)
    show MkP X pins σ Q (.ref e) ⟨h', g, dr, tk', os⟩
    obtain ⟨oe, fv, hoe, hc, hd, hdat, h1⟩ := M.obj
    have hns := M.ns
    obtain ⟨G', g1, g2⟩ := restrict h' fun b => decide (b ≠ e)
    have gk : ∀ b, b ≠ e → G'.get? b = h'.get? b := fun b hb => g1 b (decide_eq_true hb)
    have ge : G'.get? e = none := g2 e (by simp)
    have old : ∀ b o, hp.get? b = some o → G'.get? b = some o := fun b o q => (gk b (Nat.ne_of_lt (Nat.lt_of_lt_of_le (Heap.lt_size q) M.new))).trans (M.keep b o q)
    have ob : ObjOk X.prog X.w (upd H1 d (.xd [(("part" : Str), v)])) G' d (.xd [(("part" : Str), v)]) :=
      ⟨_, hns.at (fun o q => (gk d M.dne).trans q), fun f => relO_low_BadPart rv f⟩
    have J : Inv X pins σ (upd H1 d (.xd [(("part" : Str), v)])) ⟨G', g, dr, tk', os⟩ := I1.laid (t' := tk') old M.dbig ob
    refine ⟨e, oe, fv, ⟨G', g, dr, tk', os⟩, _, .ref C, some d, rfl, J, fun b o q => ?_, ge, hoe, ⟨hc, hd⟩, hdat, h1, ?_, rfl, I1.bare, raises_own T.exC T.tyC, q1 d (I1.hok.fresh M.dbig)⟩
    · by_cases hb : b = e
      · have q' : G'.get? b = some o := q
        rw [hb, ge] at q'; cases q'
      · exact (gk b hb).symm.trans q
    · rw [upd_ne (Ne.symm M.dne)]
      exact I1.hok.fresh M.new
/-- raise Low(e) -/
def tRaiseLow_BadPart (C : Addr) (W : WX) (ta : TA) : TS := fun _ σ H => tMkLow_BadPart C ta σ H fun cls d H' => W cls d σ H'
theorem ps_raiseLow_BadPart {a : Expr} {ta : TA} {W : WX} {p pos pos2 : Pos} {k : Nat} (hc : X.calm = true) (T : PySem.ErrBadPart.LowTxt X.K X.mg C fI) (hr : Room k X.A) (tk : Takes X W) (ha : PA X [a] ta) (hg : Gl X "BadPart" := by rfl)
    (he : starEach (a :: []) X.env = (false, eval a X.env) :: starEach [] X.env := by rfl) (hpl : (backTo pos (starEach [] X.env)).any (·.1) = false := by rfl) :
    PS X (.Raise (some (.Call (.Name "BadPart" p) [a] [] pos)) none pos2) (tRaiseLow_BadPart C W ta) := ps_raise hc tk (pmk_low_BadPart T hr ha hg he hpl)
/-- low.by, low the exception that the suite holds (at a; its class cls, its dict d) -/
def tByLow_BadPart (C : Addr) (a : Addr) (cls : Value) (d : Option Addr) (te : TE) : TE := fun σ H Q => te σ H fun x H1 => x = .ref a ∧ cls = .ref C ∧ ∃ (dd : Addr) (v : V), d = some dd ∧ H1 dd = some (.xd [(("part" : Str), v)]) ∧ Q v H1
theorem pe_byLow_BadPart {a : Addr} {oe : Obj} {cls : Value} {d : Option Addr} {pn : List (Addr × Obj)} {e : Expr} {te : TE} {pos : Pos} (T : PySem.ErrBadPart.LowTxt X.K X.mg C fI) (hz : Zc cls d oe) (hf : ∃ vs, oe.data = .fields vs) (he : PE (X.suite a ((a, oe) :: pn)) e te)
    (hb : attributeBase e "part" X.env (eval e X.env) = eval e X.env := by rfl) :
    PE (X.suite a ((a, oe) :: pn)) (.Attribute e "part" pos) (tByLow_BadPart C a cls d te) := by
  refine ⟨fun pins s σ H Q I h => ?_⟩
  refine attr_of hb (thn (he.run pins s σ H _ I h) fun u s1 hh => ?_)
  obtain ⟨x, H1, I1, rx, ex, ec, dd, v, ed, ea, q⟩ := hh
  subst ex
  obtain rfl : u = Value.ref a := rx
  subst ec
  subst ed
  obtain ⟨ha, _⟩ := I1.pin (a, oe) (List.mem_append_left _ List.mem_cons_self)
  obtain ⟨vs, hd⟩ := hf
  have hx : ObjOk X.prog X.w H1 s1.heap dd (.xd [(("part" : Str), v)]) := I1.hok dd _ ea
  obtain ⟨mA, hns, hr⟩ := hx
  obtain ⟨od, ho, hl⟩ := lookIn_ns hns
  have l : List.lookup ("part" : Str) [(("part" : Str), v)] = some v := by simp [List.lookup]
  obtain ⟨u, hu, ru⟩ := RelO.some_of (v := v) (o := mA "part") (by rw [← l]; exact hr "part")
  have J : PySem.W.InstAt s1.heap a oe C (some od) := ⟨ha, hz.1, by unfold PySem.W.notCls; rw [hd] <;> rfl, by rw [hz.2]; exact ho⟩
  exact HandSPX.exc_get I1.kIn J T.ga T.gg T.exC (PySem.W.findObj_own T.hdC T.noN rfl (by rw [hl, hu])) (handed_of ru) ⟨v, H1, I1.tok _, ru, q⟩
end
end L2
namespace PySem
namespace ErrBadNumber
open PySem.W PySem.Calls PyProof.Rows PySem.HandSPX
def iA (p1 p2 : Pos) : Arguments := { posonlyargs := [], args := [{ arg := "self", annotation := none, pos := p1 }, { arg := "number", annotation := none, pos := p2 }], vararg := none, kwonlyargs := [], kw_defaults := [], kwarg := none, defaults := [] }
def iB (q1 q2 q3 q4 : Pos) : List Stmt := [.Assign [.Attribute (.Name "self" q1) "number" q2] (.Name "number" q3) q4]
def iS : Scope := { kind := .function, names := [(PySem.Str.ofString "self", .local), (PySem.Str.ofString "number", .local)], isGenerator := false, isCoroutine := false, more := [] }
/-- what the written part says of Low, at C, and of its __init__, at fI -/
structure LowTxt (K : Frag) (mg : Str → Option Value) (C fI : Addr) : Prop where
  gC : mg "BadNumber" = some (.ref C)
  cls : ∃ nm q N bs bm sn sub ab col dd k0 k1 k2 k3 k5, K.lookup C = some (excClassObj nm q C N bs bm true sn sub ab col dd k0 k1 k2 k3 k5 "ValueError.__new__") ∧ refsVE bm = true
  sa : findIn K (.ref C) "__setattr__" = some (some (.builtin "object.__setattr__"))
  ga : findIn K (.ref C) "__getattribute__" = some (some (.builtin "BaseException.__getattribute__"))
  gg : findIn K (.ref C) "__getattr__" = some none
  noN : findIn K (.ref C) "number" = some none
  iC : findIn K (.ref C) "__init__" = some (some (.ref fI))
  tC : typeIn K (.ref fI) = some (.type "function")
  kC : keepIn K (.ref C) = true
  exC : subIn K (.ref C) (.type "BaseException") = some true
  tyC : typeIn K (.ref C) = some (.type "type")
  hdC : hasDictIn K C = true
  te : exmOne K (.ref C) (.ref C) = some true
  fn : ∃ (oc : Value) (od : Option Addr) (doc pm : Value) (an : Option Addr) (cdv ct : Value) (osl : Array (Option Value)) (p1 p2 q1 q2 q3 q4 : Pos),
    K.lookup fI = some ⟨oc, od, .func (fnOf "__init__" "BadNumber.__init__" (iA p1 p2) (iB q1 q2 q3 q4) iS .none .none doc pm an cdv ct), osl⟩ ∧ codeIn K cdv "BadNumber.__init__" = true
theorem one_size (v : Value) : [v].length ≤ sizeLine := by
  rw [sizeLine_eq]
  exact (by decide : 1 ≤ 16777216)
theorem ldC {M : Model} {s : Shared} {name : Str} {scope : Scope} {L a : Addr} {cd : Value} {m : Str → Option Value} {x : Str} {pos : Pos} {v : Value} {Q : Value → Shared → Prop} {A : Around} {E : Value → Shared → Prop} (hn : s.heap.Ns L m) (hv : m x = some v) (h : Q v s)
    (hk : scope.kind = .function := by rfl) (hl : (envOfC name scope L a cd).kindOf x = some .local := by rfl) (hd : (x == ("__debug__" : Str)) = false := by decide) :
    wpAny M A (eval (.Name x pos) (envOfC name scope L a cd)) Q E s := wpAny_Name (wpAny_loadName_local hk hl hn hv h) hd
/-- what __init__ leaves of a fresh exception at x -/
structure InitEnd (h h' : Heap) (x C dx t1 : Addr) (v : Value) : Prop where
  keep : ∀ b o, b ≠ x → h.get? b = some o → h'.get? b = some o
  obj : h'.get? x = some { cls := .ref C, dict := some dx, data := .fields #[.ref t1, .none, .none, .none, .bool false, .none] }
  dbig : h.objs.size ≤ dx
  dne : dx ≠ x
  ns : h'.Ns1 dx (fun y => if y = "number" then some v else none)
/-- a made Low -/
structure OwnMade (h h' : Heap) (e C d : Addr) (v : Value) : Prop where
  keep : ∀ b o, h.get? b = some o → h'.get? b = some o
  new : h.objs.size ≤ e
  obj : ∃ oe vs, h'.get? e = some oe ∧ oe.cls = .ref C ∧ oe.dict = some d ∧ oe.data = .fields vs ∧ vs[1]? = some .none
  dbig : h.objs.size ≤ d
  dne : d ≠ e
  ns : h'.Ns1 d (fun y => if y = "number" then some v else none)
section
variable {prog : Program} {w : World} {A : Around} {E : Value → Shared → Prop} {R : Result → Shared → Prop} {s : Shared} {K : Frag} {mg : Str → Option Value} {C fI : Addr}
theorem low_init (T : LowTxt K mg C fI) {x t0 : Addr} {v : Value} (X : K.In s.heap) (hlim : s.heap.NoLimit) (hx : s.heap.get? x = some (excO C t0)) (hnx : K.lookup x = none) (hroom : A.depth < recursionLimit)
    (hq : ∀ h' tk dx, InitEnd s.heap h' x C dx t0 v → R (.ok (.ret .none)) { s with heap := h', toks := tk }) :
    codeAny (model prog w) A (.call (.ref fI) ⟨[.ref x, v], []⟩) R s := by
  obtain ⟨oc, od, doc, pm, an, cdv, ct, osl, p1, p2, q1, q2, q3, q4, ho, hcd⟩ := T.fn
  obtain ⟨nm, q, N, bs, bm, sn, sub, ab, col, dd, k0, k1, k2, k3, k5, hC, hbm⟩ := T.cls
  have hcl : clsIn K C = some { name := nm, bases := bs, mro := .ref C :: bm, ns := N, qualname := q, hasDict := true, slotNames := sn, subclasses := sub, abstract := ab, collection := col, hasDel := false } := by unfold clsIn; rw [hC] <;> rfl
  refine Att.call_fn (binds := [("self", .ref x), ("number", v)]) X hlim ho hcd hroom (BindsTo.of_eq (by first | rfl | with_unfolding_all rfl)) (by first | rfl | decide | with_unfolding_all rfl) (fun s₁ IC => ?_) rfl rfl rfl
  obtain ⟨h₁, tk₁, rfl⟩ := IC.toInCall.same
  have k : ∀ b o, s.heap.get? b = some o → h₁.get? b = some o := IC.toInCall.keep
  have hn := IC.toInCall.ns
  have hxL : s.heap.objs.size ≠ x := Nat.ne_of_gt (Heap.lt_size hx)
  have X₁ : K.In h₁ := X.keeps k
  have hx₁ := k _ _ hx
  -- self.by = by
  show wpAny _ _ (execs _ _) _ _ _
  refine wpAny_execs_cons (plainObj_wpAny_Assign_Attribute ?_)
  refine ldC (v := v) hn (by first | rfl | with_unfolding_all rfl | kernel_rfl) (ldC (v := .ref x) hn (by first | rfl | with_unfolding_all rfl | kernel_rfl) ?_)
  refine set_plain X₁ (ox := excO C t0) (od := none) ⟨hx₁, rfl, rfl, trivial⟩ T.sa ?_
  refine exc_osa X₁ hx₁ hcl (show refsVE (.ref C :: bm) = true from hbm) rfl T.noN (fun h₃ tk₃ dx k₃ dn dne hx₃ hn₃ => ?_)
  show wpAny _ _ (execs _ _) _ _ _
  have z : s.heap.objs.size < h₁.objs.size := hn.lt
  exact wpAny_execs_nil (hq h₃ tk₃ dx ⟨fun b o hb e => k₃ b o hb (k b o e), hx₃, Nat.le_of_lt (Nat.lt_of_lt_of_le z dn), dne, hn₃⟩)
theorem low_made (T : LowTxt K mg C fI) {v : Value} (X : K.In s.heap) (hlim : s.heap.NoLimit) (hroom : A.depth + 1 < recursionLimit)
    (hq : ∀ h' tk e d, OwnMade s.heap h' e C d v → R (.ok (.ret (.ref e))) { s with heap := h', toks := tk }) :
    codeAny (model prog w) A (.call (.ref C) ⟨[v], []⟩) R s := by
  obtain ⟨nm, q, N, bs, bm, sn, sub, ab, col, dd, k0, k1, k2, k3, k5, hC, hbm⟩ := T.cls
  obtain ⟨hp, g, dr, tk, os⟩ := s
  have k : ∀ b o, hp.get? b = some o → ((hp.push (kdv_tup [v])).push (excO C hp.objs.size)).get? b = some o := fun b o e => Heap.get?_push_of_some _ (Heap.get?_push_of_some _ e)
  have hget : ((hp.push (kdv_tup [v])).push (excO C hp.objs.size)).get? (hp.objs.size + 1) = some (excO C hp.objs.size) := by heap_get
  have hnx : K.lookup (hp.objs.size + 1) = none := by
    cases e : K.lookup (hp.objs.size + 1) with
    | none => rfl
    | some o =>
      have z : hp.get? (hp.objs.size + 1) = some o := X _ _ e
      exact absurd (Nat.lt_of_succ_lt (Heap.lt_size z)) (Nat.lt_irrefl _)
  refine call_own F.excBase_ValueError (fun X => refsVE_contains X bm hbm) (X _ _ hC) (looks_findIn X T.iC) (fun self => bind_fn X self T.tC) (one_size v) ?_
  refine low_init (s := ⟨(hp.push (kdv_tup [v])).push (excO C hp.objs.size), g, dr, tk, os⟩) T (X.keeps k) (hlim.keeps k) hget hnx ?_ fun h' tk' dx ⟨k', hx, dn, dne, hns⟩ => ?_
  · show A.depth + 1 < recursionLimit
    exact hroom
  · have old : ∀ b o, hp.get? b = some o → h'.get? b = some o := fun b o e => k' b o (Nat.ne_of_lt (Nat.lt_succ_of_lt (Heap.lt_size e))) (k b o e)
    have z : hp.objs.size + 1 + 1 ≤ dx := by
      first
        | (simpa only [Heap.size_push] using dn)
        | exact dn
        | (have q := dn; rw [Heap.size_push, Heap.size_push] at q; exact q)
    exact ⟨rfl, hq h' tk' (hp.objs.size + 1) dx ⟨old, Nat.le_succ _, ⟨_, _, hx, rfl, rfl, rfl, rfl⟩, Nat.le_trans (Nat.le_trans (Nat.le_succ _) (Nat.le_succ _)) z, dne, hns⟩⟩
end
end ErrBadNumber
end PySem
namespace L2
open PySem PySem.Spec PyProof.Rows
theorem relO_low_BadNumber {v : V} {v' : Value} (r : RelV v v') (f : Str) : RelO (List.lookup f [(("number" : Str), v)]) (if f = "number" then some v' else none) := by
  by_cases hw : f = "number"
  · subst hw
    rw [if_pos rfl]
    have q : List.lookup ("number" : Str) [(("number" : Str), v)] = some v := by simp [List.lookup]
    rw [q]
    exact r
  · rw [if_neg hw]
    have qw : (f == ("number" : Str)) = false := by simpa using hw
    have q2 : List.lookup f [(("number" : Str), v)] = none := by simp [List.lookup, qw]
    rw [q2]
    trivial
section
variable {X : Cx} {C fI : Addr}
/-- Low(e) -/
def tMkLow_BadNumber (C : Addr) (ta : TA) : St → Hp → XK → Prop := fun σ H Q => ta σ H fun vs H1 => ∃ v, vs = [v] ∧ ∀ d, H1 d = none → Q (.ref C) (some d) (upd H1 d (.xd [(("number" : Str), v)]))
theorem pmk_low_BadNumber {a : Expr} {ta : TA} {p pos : Pos} {k : Nat} (T : PySem.ErrBadNumber.LowTxt X.K X.mg C fI) (hr : Room k X.A) (ha : PA X [a] ta) (hg : Gl X "BadNumber" := by rfl)
    (he : starEach (a :: []) X.env = (false, eval a X.env) :: starEach [] X.env := by rfl) (hpl : (backTo pos (starEach [] X.env)).any (·.1) = false := by rfl) :
    PMk X (.Call (.Name "BadNumber" p) [a] [] pos) (tMkLow_BadNumber C ta) := by
  intro pins s σ H Q I h
  refine wpAny_Call_Name_kw (ld_glob I hg T.gC ?_)
  refine PySem.W.callWith_K (h₀ := X.base) I.ok.mod.kin T.kC (thn (ha.run pos pins s σ H _ I h) fun us s1 hh => ?_) he hpl
  obtain ⟨vs, H1, I1, r1, v, ev, q1⟩ := hh
  subst ev
  refine ⟨I1.kIn, ?_⟩
  cases r1 with
  | cons rv rn =>
    rename_i v' us'
    cases rn
    show wpAny _ _ (call (.ref C) [v']) _ _ _
    have hlim := I1.nolimit
    obtain ⟨hp, g, dr, tk, os⟩ := s1
    refine wpAny_call (PySem.ErrBadNumber.low_made T I1.kIn hlim (by have := hr.dp; omega) fun h' tk' e d M => ?_)
    show MkP X pins σ Q (.ref e) ⟨h', g, dr, tk', os⟩
    obtain ⟨oe, fv, hoe, hc, hd, hdat, h1⟩ := M.obj
    have hns := M.ns
    obtain ⟨G', g1, g2⟩ := restrict h' fun b => decide (b ≠ e)
    have gk : ∀ b, b ≠ e → G'.get? b = h'.get? b := fun b hb => g1 b (decide_eq_true hb)
    have ge : G'.get? e = none := g2 e (by simp)
    have old : ∀ b o, hp.get? b = some o → G'.get? b = some o := fun b o q => (gk b (Nat.ne_of_lt (Nat.lt_of_lt_of_le (Heap.lt_size q) M.new))).trans (M.keep b o q)
    have ob : ObjOk X.prog X.w (upd H1 d (.xd [(("number" : Str), v)])) G' d (.xd [(("number" : Str), v)]) :=
      ⟨_, hns.at (fun o q => (gk d M.dne).trans q), fun f => relO_low_BadNumber rv f⟩
    have J : Inv X pins σ (upd H1 d (.xd [(("number" : Str), v)])) ⟨G', g, dr, tk', os⟩ := I1.laid (t' := tk') old M.dbig ob
    refine ⟨e, oe, fv, ⟨G', g, dr, tk', os⟩, _, .ref C, some d, rfl, J, fun b o q => ?_, ge, hoe, ⟨hc, hd⟩, hdat, h1, ?_, rfl, I1.bare, raises_own T.exC T.tyC, q1 d (I1.hok.fresh M.dbig)⟩
    · by_cases hb : b = e
      · have q' : G'.get? b = some o := q
        rw [hb, ge] at q'; cases q'
      · exact (gk b hb).symm.trans q
    · rw [upd_ne (Ne.symm M.dne)]
      exact I1.hok.fresh M.new
/-- raise Low(e) -/
def tRaiseLow_BadNumber (C : Addr) (W : WX) (ta : TA) : TS := fun _ σ H => tMkLow_BadNumber C ta σ H fun cls d H' => W cls d σ H'
theorem ps_raiseLow_BadNumber {a : Expr} {ta : TA} {W : WX} {p pos pos2 : Pos} {k : Nat} (hc : X.calm = true) (T : PySem.ErrBadNumber.LowTxt X.K X.mg C fI) (hr : Room k X.A) (tk : Takes X W) (ha : PA X [a] ta) (hg : Gl X "BadNumber" := by rfl)
    (he : starEach (a :: []) X.env = (false, eval a X.env) :: starEach [] X.env := by rfl) (hpl : (backTo pos (starEach [] X.env)).any (·.1) = false := by rfl) :
    PS X (.Raise (some (.Call (.Name "BadNumber" p) [a] [] pos)) none pos2) (tRaiseLow_BadNumber C W ta) := ps_raise hc tk (pmk_low_BadNumber T hr ha hg he hpl)
/-- low.by, low the exception that the suite holds (at a; its class cls, its dict d) -/
def tByLow_BadNumber (C : Addr) (a : Addr) (cls : Value) (d : Option Addr) (te : TE) : TE := fun σ H Q => te σ H fun x H1 => x = .ref a ∧ cls = .ref C ∧ ∃ (dd : Addr) (v : V), d = some dd ∧ H1 dd = some (.xd [(("number" : Str), v)]) ∧ Q v H1
theorem pe_byLow_BadNumber {a : Addr} {oe : Obj} {cls : Value} {d : Option Addr} {pn : List (Addr × Obj)} {e : Expr} {te : TE} {pos : Pos} (T : PySem.ErrBadNumber.LowTxt X.K X.mg C fI) (hz : Zc cls d oe) (hf : ∃ vs, oe.data = .fields vs) (he : PE (X.suite a ((a, oe) :: pn)) e te)
    (hb : attributeBase e "number" X.env (eval e X.env) = eval e X.env := by rfl) :
    PE (X.suite a ((a, oe) :: pn)) (.Attribute e "number" pos) (tByLow_BadNumber C a cls d te) := by
  refine ⟨fun pins s σ H Q I h => ?_⟩
  refine attr_of hb (thn (he.run pins s σ H _ I h) fun u s1 hh => ?_)
  obtain ⟨x, H1, I1, rx, ex, ec, dd, v, ed, ea, q⟩ := hh
  subst ex
  obtain rfl : u = Value.ref a := rx
  subst ec
  subst ed
  obtain ⟨ha, _⟩ := I1.pin (a, oe) (List.mem_append_left _ List.mem_cons_self)
  obtain ⟨vs, hd⟩ := hf
  have hx : ObjOk X.prog X.w H1 s1.heap dd (.xd [(("number" : Str), v)]) := I1.hok dd _ ea
  obtain ⟨mA, hns, hr⟩ := hx
  obtain ⟨od, ho, hl⟩ := lookIn_ns hns
  have l : List.lookup ("number" : Str) [(("number" : Str), v)] = some v := by simp [List.lookup]
  obtain ⟨u, hu, ru⟩ := RelO.some_of (v := v) (o := mA "number") (by rw [← l]; exact hr "number")
  have J : PySem.W.InstAt s1.heap a oe C (some od) := ⟨ha, hz.1, by unfold PySem.W.notCls; rw [hd] <;> rfl, by rw [hz.2]; exact ho⟩
  exact HandSPX.exc_get I1.kIn J T.ga T.gg T.exC (PySem.W.findObj_own T.hdC T.noN rfl (by rw [hl, hu])) (handed_of ru) ⟨v, H1, I1.tok _, ru, q⟩
end
end L2
namespace PySem
namespace ErrBadIndex
open PySem.W PySem.Calls PyProof.Rows PySem.HandSPX
def iA (p1 p2 : Pos) : Arguments := { posonlyargs := [], args := [{ arg := "self", annotation := none, pos := p1 }, { arg := "index", annotation := none, pos := p2 }], vararg := none, kwonlyargs := [], kw_defaults := [], kwarg := none, defaults := [] }
def iB (q1 q2 q3 q4 : Pos) : List Stmt := [.Assign [.Attribute (.Name "self" q1) "index" q2] (.Name "index" q3) q4]
def iS : Scope := { kind := .function, names := [(PySem.Str.ofString "self", .local), (PySem.Str.ofString "index", .local)], isGenerator := false, isCoroutine := false, more := [] }
/-- what the written part says of Low, at C, and of its __init__, at fI -/
structure LowTxt (K : Frag) (mg : Str → Option Value) (C fI : Addr) : Prop where
  gC : mg "BadIndex" = some (.ref C)
  cls : ∃ nm q N bs bm sn sub ab col dd k0 k1 k2 k3 k5, K.lookup C = some (excClassObj nm q C N bs bm true sn sub ab col dd k0 k1 k2 k3 k5 "ValueError.__new__") ∧ refsVE bm = true
  sa : findIn K (.ref C) "__setattr__" = some (some (.builtin "object.__setattr__"))
  ga : findIn K (.ref C) "__getattribute__" = some (some (.builtin "BaseException.__getattribute__"))
  gg : findIn K (.ref C) "__getattr__" = some none
  noN : findIn K (.ref C) "index" = some none
  iC : findIn K (.ref C) "__init__" = some (some (.ref fI))
  tC : typeIn K (.ref fI) = some (.type "function")
  kC : keepIn K (.ref C) = true
  exC : subIn K (.ref C) (.type "BaseException") = some true
  tyC : typeIn K (.ref C) = some (.type "type")
  hdC : hasDictIn K C = true
  te : exmOne K (.ref C) (.ref C) = some true
  fn : ∃ (oc : Value) (od : Option Addr) (doc pm : Value) (an : Option Addr) (cdv ct : Value) (osl : Array (Option Value)) (p1 p2 q1 q2 q3 q4 : Pos),
    K.lookup fI = some ⟨oc, od, .func (fnOf "__init__" "BadIndex.__init__" (iA p1 p2) (iB q1 q2 q3 q4) iS .none .none doc pm an cdv ct), osl⟩ ∧ codeIn K cdv "BadIndex.__init__" = true
theorem one_size (v : Value) : [v].length ≤ sizeLine := by
  rw [sizeLine_eq]
  exact (by decide : 1 ≤ 16777216)
theorem ldC {M : Model} {s : Shared} {name : Str} {scope : Scope} {L a : Addr} {cd : Value} {m : Str → Option Value} {x : Str} {pos : Pos} {v : Value} {Q : Value → Shared → Prop} {A : Around} {E : Value → Shared → Prop} (hn : s.heap.Ns L m) (hv : m x = some v) (h : Q v s)
    (hk : scope.kind = .function := by rfl) (hl : (envOfC name scope L a cd).kindOf x = some .local := by rfl) (hd : (x == ("__debug__" : Str)) = false := by decide) :
    wpAny M A (eval (.Name x pos) (envOfC name scope L a cd)) Q E s := wpAny_Name (wpAny_loadName_local hk hl hn hv h) hd
/-- what __init__ leaves of a fresh exception at x -/
structure InitEnd (h h' : Heap) (x C dx t1 : Addr) (v : Value) : Prop where
  keep : ∀ b o, b ≠ x → h.get? b = some o → h'.get? b = some o
  obj : h'.get? x = some { cls := .ref C, dict := some dx, data := .fields #[.ref t1, .none, .none, .none, .bool false, .none] }
  dbig : h.objs.size ≤ dx
  dne : dx ≠ x
  ns : h'.Ns1 dx (fun y => if y = "index" then some v else none)
/-- a made Low -/
structure OwnMade (h h' : Heap) (e C d : Addr) (v : Value) : Prop where
  keep : ∀ b o, h.get? b = some o → h'.get? b = some o
  new : h.objs.size ≤ e
  obj : ∃ oe vs, h'.get? e = some oe ∧ oe.cls = .ref C ∧ oe.dict = some d ∧ oe.data = .fields vs ∧ vs[1]? = some .none
  dbig : h.objs.size ≤ d
  dne : d ≠ e
  ns : h'.Ns1 d (fun y => if y = "index" then some v else none)
section
variable {prog : Program} {w : World} {A : Around} {E : Value → Shared → Prop} {R : Result → Shared → Prop} {s : Shared} {K : Frag} {mg : Str → Option Value} {C fI : Addr}
theorem low_init (T : LowTxt K mg C fI) {x t0 : Addr} {v : Value} (X : K.In s.heap) (hlim : s.heap.NoLimit) (hx : s.heap.get? x = some (excO C t0)) (hnx : K.lookup x = none) (hroom : A.depth < recursionLimit)
    (hq : ∀ h' tk dx, InitEnd s.heap h' x C dx t0 v → R (.ok (.ret .none)) { s with heap := h', toks := tk }) :
    codeAny (model prog w) A (.call (.ref fI) ⟨[.ref x, v], []⟩) R s := by
  obtain ⟨oc, od, doc, pm, an, cdv, ct, osl, p1, p2, q1, q2, q3, q4, ho, hcd⟩ := T.fn
  obtain ⟨nm, q, N, bs, bm, sn, sub, ab, col, dd, k0, k1, k2, k3, k5, hC, hbm⟩ := T.cls
  have hcl : clsIn K C = some { name := nm, bases := bs, mro := .ref C :: bm, ns := N, qualname := q, hasDict := true, slotNames := sn, subclasses := sub, abstract := ab, collection := col, hasDel := false } := by unfold clsIn; rw [hC] <;> rfl
  refine Att.call_fn (binds := [("self", .ref x), ("index", v)]) X hlim ho hcd hroom (BindsTo.of_eq (by first | rfl | with_unfolding_all rfl)) (by first | rfl | decide | with_unfolding_all rfl) (fun s₁ IC => ?_) rfl rfl rfl
  obtain ⟨h₁, tk₁, rfl⟩ := IC.toInCall.same
  have k : ∀ b o, s.heap.get? b = some o → h₁.get? b = some o := IC.toInCall.keep
  have hn := IC.toInCall.ns
  have hxL : s.heap.objs.size ≠ x := Nat.ne_of_gt (Heap.lt_size hx)
  have X₁ : K.In h₁ := X.keeps k
  have hx₁ := k _ _ hx
  -- self.by = by
  show wpAny _ _ (execs _ _) _ _ _
  refine wpAny_execs_cons (plainObj_wpAny_Assign_Attribute ?_)
  refine ldC (v := v) hn (by first | rfl | with_unfolding_all rfl | kernel_rfl) (ldC (v := .ref x) hn (by first | rfl | with_unfolding_all rfl | kernel_rfl) ?_)
  refine set_plain X₁ (ox := excO C t0) (od := none) ⟨hx₁, rfl, rfl, trivial⟩ T.sa ?_
  refine exc_osa X₁ hx₁ hcl (show refsVE (.ref C :: bm) = true from hbm) rfl T.noN (fun h₃ tk₃ dx k₃ dn dne hx₃ hn₃ => ?_)
  show wpAny _ _ (execs _ _) _ _ _
  have z : s.heap.objs.size < h₁.objs.size := hn.lt
  exact wpAny_execs_nil (hq h₃ tk₃ dx ⟨fun b o hb e => k₃ b o hb (k b o e), hx₃, Nat.le_of_lt (Nat.lt_of_lt_of_le z dn), dne, hn₃⟩)
theorem low_made (T : LowTxt K mg C fI) {v : Value} (X : K.In s.heap) (hlim : s.heap.NoLimit) (hroom : A.depth + 1 < recursionLimit)
    (hq : ∀ h' tk e d, OwnMade s.heap h' e C d v → R (.ok (.ret (.ref e))) { s with heap := h', toks := tk }) :
    codeAny (model prog w) A (.call (.ref C) ⟨[v], []⟩) R s := by
  obtain ⟨nm, q, N, bs, bm, sn, sub, ab, col, dd, k0, k1, k2, k3, k5, hC, hbm⟩ := T.cls
  obtain ⟨hp, g, dr, tk, os⟩ := s
  have k : ∀ b o, hp.get? b = some o → ((hp.push (kdv_tup [v])).push (excO C hp.objs.size)).get? b = some o := fun b o e => Heap.get?_push_of_some _ (Heap.get?_push_of_some _ e)
  have hget : ((hp.push (kdv_tup [v])).push (excO C hp.objs.size)).get? (hp.objs.size + 1) = some (excO C hp.objs.size) := by heap_get
  have hnx : K.lookup (hp.objs.size + 1) = none := by
    cases e : K.lookup (hp.objs.size + 1) with
    | none => rfl
    | some o =>
      have z : hp.get? (hp.objs.size + 1) = some o := X _ _ e
      exact absurd (Nat.lt_of_succ_lt (Heap.lt_size z)) (Nat.lt_irrefl _)
  refine call_own F.excBase_ValueError (fun X => refsVE_contains X bm hbm) (X _ _ hC) (looks_findIn X T.iC) (fun self => bind_fn X self T.tC) (one_size v) ?_
  refine low_init (s := ⟨(hp.push (kdv_tup [v])).push (excO C hp.objs.size), g, dr, tk, os⟩) T (X.keeps k) (hlim.keeps k) hget hnx ?_ fun h' tk' dx ⟨k', hx, dn, dne, hns⟩ => ?_
  · show A.depth + 1 < recursionLimit
    exact hroom
  · have old : ∀ b o, hp.get? b = some o → h'.get? b = some o := fun b o e => k' b o (Nat.ne_of_lt (Nat.lt_succ_of_lt (Heap.lt_size e))) (k b o e)
    have z : hp.objs.size + 1 + 1 ≤ dx := by
      first
        | (simpa only [Heap.size_push] using dn)
        | exact dn
        | (have q := dn; rw [Heap.size_push, Heap.size_push] at q; exact q)
    exact ⟨rfl, hq h' tk' (hp.objs.size + 1) dx ⟨old, Nat.le_succ _, ⟨_, _, hx, rfl, rfl, rfl, rfl⟩, Nat.le_trans (Nat.le_trans (Nat.le_succ _) (Nat.le_succ _)) z, dne, hns⟩⟩
end
end ErrBadIndex
end PySem
namespace L2
open PySem PySem.Spec PyProof.Rows
theorem relO_low_BadIndex {v : V} {v' : Value} (r : RelV v v') (f : Str) : RelO (List.lookup f [(("index" : Str), v)]) (if f = "index" then some v' else none) := by
  by_cases hw : f = "index"
  · subst hw
    rw [if_pos rfl]
    have q : List.lookup ("index" : Str) [(("index" : Str), v)] = some v := by simp [List.lookup]
    rw [q]
    exact r
  · rw [if_neg hw]
    have qw : (f == ("index" : Str)) = false := by simpa using hw
    have q2 : List.lookup f [(("index" : Str), v)] = none := by simp [List.lookup, qw]
    rw [q2]
    trivial
section
variable {X : Cx} {C fI : Addr}
/-- Low(e) -/
def tMkLow_BadIndex (C : Addr) (ta : TA) : St → Hp → XK → Prop := fun σ H Q => ta σ H fun vs H1 => ∃ v, vs = [v] ∧ ∀ d, H1 d = none → Q (.ref C) (some d) (upd H1 d (.xd [(("index" : Str), v)]))
theorem pmk_low_BadIndex {a : Expr} {ta : TA} {p pos : Pos} {k : Nat} (T : PySem.ErrBadIndex.LowTxt X.K X.mg C fI) (hr : Room k X.A) (ha : PA X [a] ta) (hg : Gl X "BadIndex" := by rfl)
    (he : starEach (a :: []) X.env = (false, eval a X.env) :: starEach [] X.env := by rfl) (hpl : (backTo pos (starEach [] X.env)).any (·.1) = false := by rfl) :
    PMk X (.Call (.Name "BadIndex" p) [a] [] pos) (tMkLow_BadIndex C ta) := by
  intro pins s σ H Q I h
  refine wpAny_Call_Name_kw (ld_glob I hg T.gC ?_)
  refine PySem.W.callWith_K (h₀ := X.base) I.ok.mod.kin T.kC (thn (ha.run pos pins s σ H _ I h) fun us s1 hh => ?_) he hpl
  obtain ⟨vs, H1, I1, r1, v, ev, q1⟩ := hh
  subst ev
  refine ⟨I1.kIn, ?_⟩
  cases r1 with
  | cons rv rn =>
    rename_i v' us'
    cases rn
    show wpAny _ _ (call (.ref C) [v']) _ _ _
    have hlim := I1.nolimit
    obtain ⟨hp, g, dr, tk, os⟩ := s1
    refine wpAny_call (PySem.ErrBadIndex.low_made T I1.kIn hlim (by have := hr.dp; omega) fun h' tk' e d M => ?_)
    show MkP X pins σ Q (.ref e) ⟨h', g, dr, tk', os⟩
    obtain ⟨oe, fv, hoe, hc, hd, hdat, h1⟩ := M.obj
    have hns := M.ns
    obtain ⟨G', g1, g2⟩ := restrict h' fun b => decide (b ≠ e)
    have gk : ∀ b, b ≠ e → G'.get? b = h'.get? b := fun b hb => g1 b (decide_eq_true hb)
    have ge : G'.get? e = none := g2 e (by simp)
    have old : ∀ b o, hp.get? b = some o → G'.get? b = some o := fun b o q => (gk b (Nat.ne_of_lt (Nat.lt_of_lt_of_le (Heap.lt_size q) M.new))).trans (M.keep b o q)
    have ob : ObjOk X.prog X.w (upd H1 d (.xd [(("index" : Str), v)])) G' d (.xd [(("index" : Str), v)]) :=
      ⟨_, hns.at (fun o q => (gk d M.dne).trans q), fun f => relO_low_BadIndex rv f⟩
    have J : Inv X pins σ (upd H1 d (.xd [(("index" : Str), v)])) ⟨G', g, dr, tk', os⟩ := I1.laid (t' := tk') old M.dbig ob
    refine ⟨e, oe, fv, ⟨G', g, dr, tk', os⟩, _, .ref C, some d, rfl, J, fun b o q => ?_, ge, hoe, ⟨hc, hd⟩, hdat, h1, ?_, rfl, I1.bare, raises_own T.exC T.tyC, q1 d (I1.hok.fresh M.dbig)⟩
    · by_cases hb : b = e
      · have q' : G'.get? b = some o := q
        rw [hb, ge] at q'; cases q'
      · exact (gk b hb).symm.trans q
    · rw [upd_ne (Ne.symm M.dne)]
      exact I1.hok.fresh M.new
/-- raise Low(e) -/
def tRaiseLow_BadIndex (C : Addr) (W : WX) (ta : TA) : TS := fun _ σ H => tMkLow_BadIndex C ta σ H fun cls d H' => W cls d σ H'
theorem ps_raiseLow_BadIndex {a : Expr} {ta : TA} {W : WX} {p pos pos2 : Pos} {k : Nat} (hc : X.calm = true) (T : PySem.ErrBadIndex.LowTxt X.K X.mg C fI) (hr : Room k X.A) (tk : Takes X W) (ha : PA X [a] ta) (hg : Gl X "BadIndex" := by rfl)
    (he : starEach (a :: []) X.env = (false, eval a X.env) :: starEach [] X.env := by rfl) (hpl : (backTo pos (starEach [] X.env)).any (·.1) = false := by rfl) :
    PS X (.Raise (some (.Call (.Name "BadIndex" p) [a] [] pos)) none pos2) (tRaiseLow_BadIndex C W ta) := ps_raise hc tk (pmk_low_BadIndex T hr ha hg he hpl)
/-- low.by, low the exception that the suite holds (at a; its class cls, its dict d) -/
def tByLow_BadIndex (C : Addr) (a : Addr) (cls : Value) (d : Option Addr) (te : TE) : TE := fun σ H Q => te σ H fun x H1 => x = .ref a ∧ cls = .ref C ∧ ∃ (dd : Addr) (v : V), d = some dd ∧ H1 dd = some (.xd [(("index" : Str), v)]) ∧ Q v H1
theorem pe_byLow_BadIndex {a : Addr} {oe : Obj} {cls : Value} {d : Option Addr} {pn : List (Addr × Obj)} {e : Expr} {te : TE} {pos : Pos} (T : PySem.ErrBadIndex.LowTxt X.K X.mg C fI) (hz : Zc cls d oe) (hf : ∃ vs, oe.data = .fields vs) (he : PE (X.suite a ((a, oe) :: pn)) e te)
    (hb : attributeBase e "index" X.env (eval e X.env) = eval e X.env := by rfl) :
    PE (X.suite a ((a, oe) :: pn)) (.Attribute e "index" pos) (tByLow_BadIndex C a cls d te) := by
  refine ⟨fun pins s σ H Q I h => ?_⟩
  refine attr_of hb (thn (he.run pins s σ H _ I h) fun u s1 hh => ?_)
  obtain ⟨x, H1, I1, rx, ex, ec, dd, v, ed, ea, q⟩ := hh
  subst ex
  obtain rfl : u = Value.ref a := rx
  subst ec
  subst ed
  obtain ⟨ha, _⟩ := I1.pin (a, oe) (List.mem_append_left _ List.mem_cons_self)
  obtain ⟨vs, hd⟩ := hf
  have hx : ObjOk X.prog X.w H1 s1.heap dd (.xd [(("index" : Str), v)]) := I1.hok dd _ ea
  obtain ⟨mA, hns, hr⟩ := hx
  obtain ⟨od, ho, hl⟩ := lookIn_ns hns
  have l : List.lookup ("index" : Str) [(("index" : Str), v)] = some v := by simp [List.lookup]
  obtain ⟨u, hu, ru⟩ := RelO.some_of (v := v) (o := mA "index") (by rw [← l]; exact hr "index")
  have J : PySem.W.InstAt s1.heap a oe C (some od) := ⟨ha, hz.1, by unfold PySem.W.notCls; rw [hd] <;> rfl, by rw [hz.2]; exact ho⟩
  exact HandSPX.exc_get I1.kIn J T.ga T.gg T.exC (PySem.W.findObj_own T.hdC T.noN rfl (by rw [hl, hu])) (handed_of ru) ⟨v, H1, I1.tok _, ru, q⟩
end
end L2
set_option maxHeartbeats 4000000
namespace Mp
open PySem PySem.Spec PyProof.Rows L2
/-- a clause: its class, and what its suite says of the error at an address, of its class and its dict -/
abbrev Cl := Value × (Addr → Value → Option Addr → TS)
/-- the slot is empty behind the suite -/
def offE (i : Nat) (D : Ends) : Ends := { nx := fun σ2 H2 => D.nx (σ2.set i none) H2, rt := D.rt, bk := fun σ2 H2 => D.bk (σ2.set i none) H2, ct := fun σ2 H2 => D.ct (σ2.set i none) H2 }
/-- the wish of a body under such clauses -/
def wCls (K : PySem.W.Frag) (i : Nat) (D : Ends) : List Cl → WX
  | [] => fun _ _ _ _ => False
  | (k, t) :: r => fun cls d σ H => ∃ b, PySem.W.exmOne K cls k = some b ∧ (b = true → ∀ ea, H ea = none → t ea cls d (offE i D) (σ.set i (some (.ref ea))) H) ∧ (b = false → wCls K i D r cls d σ H)
inductive ClsOk (X : Cx) (n : Str) : List ExceptHandler → List Cl → Prop
  | none_ : ClsOk X n [] []
  | more {x : Str} {k : Value} {t : Addr → Value → Option Addr → TS} {s0 : Stmt} {ss : List Stmt} {p1 p2 : Pos} {hs : List ExceptHandler} {l : List Cl} (nm : Names X x k)
      (su : ∀ (ea : Addr) (eo : Obj) (cls : Value) (d : Option Addr) (pn : List (Addr × Obj)), Zc cls d eo → (∃ vs, eo.data = .fields vs) → PSs (X.suite ea ((ea, eo) :: pn)) (s0 :: ss) (t ea cls d)) (rest : ClsOk X n hs l) :
      ClsOk X n (.ExceptHandler (some (.Name x p1)) (some n) (s0 :: ss) p2 :: hs) ((k, t) :: l)
section
variable {X : Cx} {n : Str} {i : Nat} {body : List Stmt} {e0 : ExceptHandler} {es : List ExceptHandler} {l : List Cl} {pos : Pos} {tb : WX → TS}
theorem ps_try_cls (st : X.stack = X.env :: X.outer) (fr : X.env.frame = some X.env.locals) (nd : X.N.Nodup) (ni : X.N[i]? = some n) (kl : X.env.kindOf n = some .local)
    (bd : ∀ (W : WX) (pn : List (Addr × Obj)) (xe : Value → Shared → Prop), Takes (X.tr pn xe) W → PassesOwn (model X.prog X.w) X.A X.env xe → PSs (X.tr pn xe) body (tb W))
    (ok : ClsOk X n (e0 :: es) l) : PS X (.Try body (e0 :: es) [] [] pos) (fun D σ H => tb (wCls X.K i D l) D σ H) := by
  refine ⟨fun pins s σ H D I h => ?_⟩
  have iok := I.ok
  have frs0 : X.A.frames = some (X.env :: X.outer) := by rw [iok.frames, st]
  have lcl : Loc X.env.scope n := .inl kl
  refine wpAny_Try_except ?_
  refine wpAny_mono ((bd (wCls X.K i D l) (X.pn ++ pins) (fun ev t1 => wpAny (model X.prog X.w) X.A (noteFrame ev X.env) (fun _ t2 => wpAny (model X.prog X.w) X.A (setFlight ev none) (fun _ t3 => wpAny (model X.prog X.w) X.A (handleBy ev X.env (e0 :: es)) (SP X pins D) X.xe t3) X.xe t2) X.xe t1)
    (fun u s' xx => ?_) PassesOwn.looking).run [] s σ H D (I.toTry _) h) (fun fl s1 hsp => ?_) (fun ev s1 he => he)
  · obtain ⟨ea, B, sI, pins', σ', H', cls, d, rfl, J', nb, up, sky, na, os, ag, w⟩ := xx
    have J : Inv X pins σ' H' sI := J'.ofTry iok
    have sky2 : Sky B (X.env :: X.outer) ea (Zc cls d) X.env.locals s'.heap := by rw [← st]; exact sky
    show wpAny (model X.prog X.w) X.A (noteFrame (.ref ea) X.env) _ _ _
    refine Sky.land Zc.steady frs0 fr sky2 fun h3 fl3 up3 => ?_
    have J3 : Inv X pins σ' H' { s' with heap := h3 } := J.landed nb fl3.1 (up.trans up3) os ag
    obtain ⟨eo3, vs3, he3, hz3, hd3⟩ := fl3.there
    have apart : ea ∉ frs (X.env :: X.outer) := fun hm => by
      obtain ⟨_, o2, q2, nf⟩ := fl3.2.2.1.mem hm
      rw [he3] at q2; cases q2
      exact nf _ hd3
    have nL : ea ≠ X.env.locals := fun z => apart (List.mem_filterMap.mpr ⟨X.env, List.mem_cons_self, by rw [fr, z]⟩)
    have nF : ea ∉ X.fs := fun hm => by
      obtain ⟨en, hen, q⟩ := List.mem_filterMap.mp hm
      exact apart (List.mem_filterMap.mpr ⟨en, List.mem_cons_of_mem _ hen, q⟩)
    have S3 := J3.suite he3 hd3 na nL nF
    have LT : PySem.W.Looks (model X.prog X.w) h3 (typeOf (.ref ea)) cls := fun A Q E t k q => wpAny_typeOf_ref (k _ _ he3) (by rw [hz3.1]; exact q)
    have go : ∀ {hs2 : List ExceptHandler} {l2 : List Cl}, ClsOk X n hs2 l2 → wCls X.K i D l2 cls d σ' H' → wpAny (model X.prog X.w) X.A (handleBy (.ref ea) X.env hs2) (SP X pins D) X.xe { s' with heap := h3 } := by
      intro hs2 l2 hk
      induction hk with
      | none_ => intro w; exact w.elim
      | @more x k t s0 ss p1 p2 hs l nm su rest ih =>
        intro w
        obtain ⟨b, hb1, yes, no⟩ := w
        refine wpAny_handleBy_cons (codeAny_handlers_test ?_) (by intro q; cases q)
        have LM := PySem.W.exm_one (M := model X.prog X.w) (J3.kIn) LT hb1
        have tst : ∀ {Q : Value → Shared → Prop} {E : Value → Shared → Prop}, Q k { s' with heap := h3 } → wpAny (model X.prog X.w) (X.A.mark (some (.ref ea))) (eval (.Name x p1) X.env) Q E { s' with heap := h3 } := fun {Q E} q => by
          obtain ⟨hg, hdbg, hm | ⟨hm, hv, hnn⟩⟩ := nm
          · exact ld_glob (X := X.suite ea ((ea, eo3) :: (X.pn ++ pins))) S3 hg hm q hdbg
          · exact ld_blt (X := X.suite ea ((ea, eo3) :: (X.pn ++ pins))) S3 hg hm hv q hnn hdbg
        refine tst (LM.here ?_)
        cases b with
        | false =>
          show wpAny _ X.A (handleBy (.ref ea) X.env hs) _ _ _
          exact ih (no rfl)
        | true =>
          refine codeAny_handlers_suite_as ?_
          refine HandSPX.lands_againZ fl3 fun h4 fl4 up4 => ?_
          have J4 : Inv X pins σ' H' { s' with heap := h4 } := J.landed nb fl4.1 ((up.trans up3).trans up4) os ag
          obtain ⟨eo4, vs4, he4, hz4, hd4⟩ := fl4.there
          have S4 := J4.suite he4 hd4 na nL nF
          refine store_ok (X := X.suite ea ((ea, eo4) :: (X.pn ++ pins))) (v := .ref ea) S4 nd ni lcl rfl (fun s5 S5 => ?_) (.inr kl)
          refine wpAny_mono ((su ea eo4 cls d (X.pn ++ pins) hz4 ⟨_, hd4⟩).run [] s5 _ H' _ S5 (yes rfl ea na)) (fun fl s6 hsp => ?_) (fun _ _ z => False.elim z)
          have fin : ∀ {σ6 : L2.St} {H6 : Hp} {Q : Shared → Prop}, Inv (X.suite ea ((ea, eo4) :: (X.pn ++ pins))) [] σ6 H6 s6 → (∀ s7, Inv X pins (σ6.set i none) H6 s7 → Q s7) →
              wpAny (model X.prog X.w) X.A (do bindName X.env n .none; unbindBehindTheSuite X.env n p2) (fun _ s7 => Q s7) X.xe s6 := fun {σ6 H6 Q} S6 hq => gone_ok (S6.unsuite iok) nd ni kl hq
          cases fl with
          | next => obtain ⟨σ6, H6, S6, q6⟩ := hsp; exact fin S6 fun s7 J7 => ⟨_, _, J7, q6⟩
          | brk => obtain ⟨σ6, H6, S6, q6⟩ := hsp; exact fin S6 fun s7 J7 => ⟨_, _, J7, q6⟩
          | cont => obtain ⟨σ6, H6, S6, q6⟩ := hsp; exact fin S6 fun s7 J7 => ⟨_, _, J7, q6⟩
          | ret u => obtain ⟨v6, σ6, H6, S6, r6, q6⟩ := hsp; exact fin S6 fun s7 J7 => ⟨_, _, _, J7, r6, q6⟩
    exact go ok w
  · cases fl with
    | next => obtain ⟨σ', H', J', q⟩ := hsp; exact wpAny_execs_nil ⟨σ', H', J'.ofTry iok, q⟩
    | brk => obtain ⟨σ', H', J', q⟩ := hsp; exact ⟨σ', H', J'.ofTry iok, q⟩
    | cont => obtain ⟨σ', H', J', q⟩ := hsp; exact ⟨σ', H', J'.ofTry iok, q⟩
    | ret u => obtain ⟨v, σ', H', J', r, q⟩ := hsp; exact ⟨v, σ', H', J'.ofTry iok, r, q⟩
end
end Mp
set_option maxHeartbeats 4000000
namespace Mp
open PySem PySem.Spec PyProof.Rows L2
variable [GdW]
/-- an empty table's object -/
abbrev tab0 : Obj := { cls := .none, data := .fields #[] }
/-- the list that is handed in -/
abbrev lst0 (vs : List Value) : Obj := { cls := .type "list", data := .seq vs.toArray }
theorem tab_lst {vs : List Value} (z : some (lst0 vs) = some tab0) : False := by
  have q : Data.seq vs.toArray _ = Data.fields #[] := congrArg Obj.data (Option.some.inj z)
  cases q
section
variable {P : Program} {w : World} {K : PySem.W.Frag} {mg mb : Str → Option Value} {CX : CXT} {k : Nat} {fa a : Addr} {ts : List (Addr × Addr)} {fd : FuncData} {x : Str} {sp : Sp} {s1 : Shared} {vs : List Value} {ns : List Int}
/-- what stands in the abstract heap at the law's start: the script, if the top has not written it, and the tables -/
structure At0 (H : Hp) (P : Program) (w : World) (K : PySem.W.Frag) (s1 : Shared) (ts : List (Addr × Addr)) (a : Addr) (ns : List Int) : Prop where
  tabs : ∀ p ∈ ts, H p.2 = some (.tbl #[])
  all : ∀ b, H b = none ∨ b ∈ ts.map (·.2) ∨ ∃ o xs, H b = some (.frz o (.lst xs))
  scr : SqL K H a (ns.map V.int)
  hok : HOk P w H s1.heap
  only : ∀ b, H b ≠ none → b = a ∨ b ∈ ts.map (·.2)
  new : H a ≠ none → K.lookup a = none
theorem law_goT (KX : K.In s1.heap) (nsg : s1.heap.Ns mainGlobals mg) (nsb : s1.heap.Ns builtinsNs mb) (bb : ∀ x : Str, x ≠ "__name__" → mb x = bootBuiltins x) (lim : s1.heap.NoLimit) (gs : s1.gens = #[])
    (tT : ∀ p ∈ ts, s1.heap.get? p.2 = some tab0) (tK : ∀ p ∈ ts, K.lookup p.2 = none) (tC : ∀ p ∈ ts, PySem.W.CodeHd s1.heap p.1 p.2)
    (bmn : ∃ (bm : Addr) (ob : Obj), mg "__builtins__" = some (.ref bm) ∧ bm ≠ builtinsNs ∧ s1.heap.get? bm = some ob ∧ ob.cls = .type "module" ∧ ob.dict = some builtinsNs ∧ ob.data = .plain)
    (ha : s1.heap.get? a = some (lst0 vs)) (room : Room k callerA)
    (F : ∀ base : Heap, K.In base → base.Ns mainGlobals mg → (∀ p ∈ ts, LamX.TabB base mg p.1 p.2) → FnOk P w K mg base CX k fa fd [x] sp) (bnd : ∀ (s : Shared) (u : Value), BindsTo s fd ⟨[u], []⟩ [(x, u)])
    (noX : ∀ H e s', CX [] H s1 (fun _ _ _ => False) e s' → False) {H : Hp} (Z : At0 H P w K s1 ts a ns) (want : sp [.ref a] H (fun v _ => v = .bl true) fun _ _ _ => False) :
    codeAny (model P w) callerA (.call (.ref fa) ⟨[.ref a], []⟩) (fun r s' => r = .ok (.ret (.bool true)) ∧ OldK s1.heap s'.heap ∧ s'.os = s1.os ∧ AllBare s'.gens) s1 := by
  have inT : ∀ b : Addr, b ∈ ts.map (·.2) → s1.heap.get? b = some tab0 := fun b hb => by
    obtain ⟨p, hp, rfl⟩ := List.mem_map.mp hb
    exact tT p hp
  have noS : ∀ {b : Addr} {o : Obj}, s1.heap.get? b = some o → (∀ l n, o.data ≠ .seq l n) → o.data ≠ .fields #[] → H b = none := fun {b o} e n1 n2 => by
    cases q : H b with
    | none => rfl
    | some u =>
      rcases Z.only b (by rw [q]; simp) with z | z
      · rw [z, ha] at e; cases e; exact (n1 _ _ rfl).elim
      · rw [inT b z] at e; cases e; exact (n2 rfl).elim
  have noD : ∀ {b : Addr} {o : Obj} {es : Array DictEntry} {ep : Nat}, s1.heap.get? b = some o → o.data = .dict es ep → H b = none := fun {b o es ep} e d =>
    noS e (fun l n z => by rw [d] at z; cases z) fun z => by rw [d] at z; cases z
  have hide : ∀ {b : Addr} {m : Str → Option Value}, s1.heap.Ns b m → (hidT s1.heap H).Ns b m := fun {b m} ⟨o, es, ep, e, d, r⟩ => ⟨o, es, ep, hidT_get e (noD e d), d, r⟩
  have KH : K.In (hidT s1.heap H) := fun b o e => hidT_get (KX b o e) (by
    cases q : H b with
    | none => rfl
    | some u =>
      rcases Z.only b (by rw [q]; simp) with z | z
      · rw [z] at e q; rw [Z.new (by rw [q]; simp)] at e; cases e
      · obtain ⟨p, hp, ep⟩ := List.mem_map.mp z
        rw [← ep, tK p hp] at e; cases e)
  have MH : L2.Mod K mg (hidT s1.heap H) := ⟨KH, hide nsg, ⟨mb, hide nsb, bb⟩, let ⟨mc, h1, h2⟩ := lim; ⟨mc, hide h1, h2⟩⟩
  have TB : ∀ p ∈ ts, LamX.TabB (hidT s1.heap H) mg p.1 p.2 := fun p hp => by
    refine ⟨?_, ?_, fun z => ?_⟩
    · obtain ⟨o, us, file, tf, flags, tg, inF, text, tt, e1, r1, r2, r3, r4, r5, r6, r7, r8, hne⟩ := tC p hp
      exact ⟨o, us, file, tf, flags, tg, inF, text, tt, hidT_get e1 (noS e1 (fun l n z => by rw [r2] at z; cases z) fun z => by rw [r2] at z; cases z; simp at r3), r1, r2, r3, r4, r5, r6, r7, r8, hne⟩
    · obtain ⟨bm, ob, b1, b2, b3, b4, b5, b6⟩ := bmn
      have nG : bm ≠ mainGlobals := fun q => by
        obtain ⟨o, es, ep, e, hd, _⟩ := nsg
        rw [q, e] at b3; cases b3; rw [hd] at b6; cases b6
      have nP : bm ≠ p.2 := fun q => by rw [q, tT p hp] at b3; cases b3; cases b6
      exact ⟨bm, ob, b1, b2, nG, nP, hidT_get b3 (noS b3 (fun l n z => by rw [b6] at z; cases z) fun z => by rw [b6] at z; cases z), b4, b5, b6⟩
    · obtain ⟨o, es, ep, e, hd, _⟩ := nsg
      rw [z, tT p hp] at e; cases e; cases hd
  have e0 : Env0 P w K mg (hidT s1.heap H) callerA [] s1 H := ⟨rfl, MH, fun b o e => of_hidT e, Nat.le_of_eq (hidT_size _ _), trivial, (fun b hb => absurd hb (by simp [frs])), Z.hok, .of_eq gs⟩
  refine codeAny_mono ((F _ KH (hide nsg) TB).go callerA [] s1 H ⟨[.ref a], []⟩ [.ref a] [.ref a] _ _ room e0 (bnd s1 (.ref a)) (.cons rfl .nil) want) fun r s' h => ?_
  match r, h with
  | .error e, h => exact (noX H e s' h).elim
  | .ok .next, h => exact h.elim
  | .ok .brk, h => exact h.elim
  | .ok .cont, h => exact h.elim
  | .ok (.ret u), ⟨v, H', os, bare, un, hok2, r2, q⟩ =>
    have q2 : v = .bl true := q
    subst q2
    obtain rfl : u = Value.bool true := r2
    have kept : ∀ b o, b ∉ ts.map (·.2) → s1.heap.get? b = some o → s'.heap.get? b = some o := fun b o nb e => by
      cases q : H b with
      | none => exact un.keep b o e q (by intro z; cases z) (by simp)
      | some u =>
        rcases Z.all b with z | z | ⟨ob, xs, z⟩
        · rw [q] at z; cases z
        · exact absurd z nb
        · obtain ⟨e1, _⟩ := Z.hok b _ z
          obtain ⟨e2, _⟩ := hok2 b _ (un.frzs b ob _ z)
          rw [e] at e1; cases e1
          exact e2
    have grown : ∀ p ∈ ts, ∃ more : Array Value, s'.heap.get? p.2 = some { cls := .none, data := .fields more } := fun p hp => by
      obtain ⟨more, z⟩ := un.tbls p.2 #[] (Z.tabs p hp)
      exact ⟨_, hok2 p.2 _ z⟩
    refine ⟨rfl, ⟨fun b o e => ?_, fun b o e => ?_⟩, os, bare⟩
    · by_cases hb : b ∈ ts.map (·.2)
      · obtain ⟨p, hp, rfl⟩ := List.mem_map.mp hb
        obtain ⟨more, hm⟩ := grown p hp
        rw [tT p hp] at e; cases e
        exact .inr (.inl ⟨((tC p hp).tab (tT p hp)).isCodeTable, rfl, #[], more, rfl, by rw [Array.empty_append]; exact hm⟩)
      · exact .inl (kept b o hb e)
    · by_cases hb : b ∈ ts.map (·.2)
      · obtain ⟨p, hp, rfl⟩ := List.mem_map.mp hb
        obtain ⟨more, hm⟩ := grown p hp
        exact ⟨_, hm⟩
      · exact ⟨o, kept b o hb e⟩
/-- such a heap there is -/
theorem at0_is (KX : K.In s1.heap) (tT : ∀ p ∈ ts, s1.heap.get? p.2 = some tab0) (ha : s1.heap.get? a = some (lst0 vs)) (hi : IntsAre vs ns) (hl : ns.length ≤ sizeLine) : ∃ H : Hp, At0 H P w K s1 ts a ns := by
  have rv := vals_ints hi
  have lv := hi.length
  have inT : ∀ b : Addr, b ∈ ts.map (·.2) → s1.heap.get? b = some tab0 := fun b hb => by
    obtain ⟨p, hp, rfl⟩ := List.mem_map.mp hb
    exact tT p hp
  have aT : a ∉ ts.map (·.2) := fun z => tab_lst (ha.symm.trans (inT a z))
  have mem : ∀ p ∈ ts, p.2 ∈ ts.map (·.2) := fun p hp => List.mem_map.mpr ⟨p, hp, rfl⟩
  cases hk : K.lookup a with
  | some o =>
    have e := KX a o hk
    rw [ha] at e; cases e
    refine ⟨fun b => if b ∈ ts.map (·.2) then some (.tbl #[]) else none, fun p hp => if_pos (mem p hp), fun b => ?_, .inr ⟨_, vs.toArray, _, hk, rfl, rfl, rfl, by rw [List.size_toArray, lv]; exact hl, by simpa using rv⟩, fun b u z => ?_, fun b z => ?_, fun z => absurd (if_neg aT) z⟩
    · by_cases hb : b ∈ ts.map (·.2)
      · exact .inr (.inl hb)
      · exact .inl (if_neg hb)
    · by_cases hb : b ∈ ts.map (·.2)
      · have z2 := (if_pos hb).symm.trans z; cases z2; exact inT b hb
      · have z2 := (if_neg hb).symm.trans z; cases z2
    · by_cases hb : b ∈ ts.map (·.2)
      · exact .inr hb
      · exact absurd (if_neg hb) z
  | none =>
    refine ⟨fun b => if b = a then some (.frz (lst0 vs) (.lst (ns.map V.int))) else if b ∈ ts.map (·.2) then some (.tbl #[]) else none, fun p hp => (if_neg (show ¬ p.2 = a from fun z => aT (by rw [← z]; exact mem p hp))).trans (if_pos (mem p hp)), fun b => ?_, .inl (.inr ⟨lst0 vs, if_pos rfl⟩), fun b u z => ?_, fun b z => ?_, fun _ => hk⟩
    · by_cases hb : b = a
      · exact .inr (.inr ⟨_, _, if_pos hb⟩)
      · by_cases hb2 : b ∈ ts.map (·.2)
        · exact .inr (.inl hb2)
        · exact .inl ((if_neg hb).trans (if_neg hb2))
    · by_cases hb : b = a
      · have z2 := (if_pos hb).symm.trans z; cases z2; rw [hb]
        exact ⟨ha, by rw [List.length_map]; exact hl, vs, _, rv, ha⟩
      · have z1 := (if_neg hb).symm.trans z
        by_cases hb2 : b ∈ ts.map (·.2)
        · have z2 := (if_pos hb2).symm.trans z1; cases z2; exact inT b hb2
        · have z2 := (if_neg hb2).symm.trans z1; cases z2
    · by_cases hb : b = a
      · exact .inl hb
      · by_cases hb2 : b ∈ ts.map (·.2)
        · exact .inr hb2
        · exact absurd ((if_neg hb).trans (if_neg hb2)) z
end
/-- what is known of the law's promise where the call starts: the tables of the defs that make lambdas, and the promise over them -/
def LawG (l : PySem.W.OpenLaw) (w : World) (K : PySem.W.Frag) (CX : CXT) (k n : Nat) (x : Str) (mg : Str → Option Value) (fa : Addr) (h : Heap) : Prop :=
  ∃ (fd : FuncData) (ts : List (Addr × Addr)) (sp : Sp), (∀ p ∈ ts, h.get? p.2 = some tab0) ∧ (∀ p ∈ ts, K.lookup p.2 = none) ∧ (∀ p ∈ ts, PySem.W.CodeHd h p.1 p.2) ∧ (∀ (s : Shared) (u : Value), BindsTo s fd ⟨[u], []⟩ [(x, u)]) ∧
    (∀ (H : Hp) (a : Addr) (ns : List Int), ns.length ≤ n → (∀ p ∈ ts, H p.2 = some (.tbl #[])) → SqL K H a (ns.map V.int) → sp [.ref a] H (fun v _ => v = .bl true) fun _ _ _ => False) ∧
    ∀ base : Heap, K.In base → base.Ns mainGlobals mg → (∀ p ∈ ts, LamX.TabB base mg p.1 p.2) → FnOk l.prog w K mg base CX k fa fd [x] sp
theorem walkG {l : PySem.W.OpenLaw} {n k : Nat} {q : Program} {loose : List Str} {XP : (Str → Option Value) → Heap → Prop} {YP : World → Heap → Prop} {d : DefRec} {K : Params → PySem.W.Frag} {x : Str}
    (hn : l.most = some n) (hn2 : n ≤ sizeLine) (hdf : d.params.defaults = []) (hr : Room k callerA) (hY : ∀ (w : World) (h : Heap), YP w h → (K w.params).In h)
    (F : ∀ (w : World) (mg mb : Str → Option Value) (fa : Addr) (h : Heap) (s₀ : Shared), PySem.W.Ground q loose [] XP w s₀ mg mb h → YP w h → (K w.params).In h → h.Ns mainGlobals mg → mg d.name = some (.ref fa) → LawG l w (K w.params) (L2.CX l.prog w) k n x mg fa h) :
    PySem.W.WalkO q loose XP YP l.row.toRowW d [] (fun f vs => PySem.call f vs) := by
  refine _root_.Att.attach_callB hn hdf fun w s₀ s₁ mg mb fa o pm cd doc a vs ns G Y ho hd hcd hmg hobj hints hlen hbits hg => ?_
  have KX := hY w _ Y
  obtain ⟨fd, ts, sp, tT, tK, tC, bnd, want, ok⟩ := F w mg mb fa _ s₀ G Y KX G.T.g hmg
  obtain ⟨H, Z⟩ := at0_is (P := l.prog) (w := w) (K := K w.params) (ts := ts) KX tT hobj hints (Nat.le_trans hlen hn2)
  exact law_goT KX G.T.g G.T.b G.T.builtins G.T.nolimit hg tT tK tC G.T.bmain hobj hr ok bnd (fun _ _ _ ⟨_, _, _, _, _, _, _, _, _, _, _, _, z⟩ => z) Z (want H a ns hlen Z.tabs Z.scr)
/-- a def's code object and its table, empty at the start -/
theorem tab_at {q : Program} {loose : List Str} {XP : (Str → Option Value) → Heap → Prop} {w : World} {s₀ : Shared} {mg mb : Str → Option Value} {h : Heap} {K : PySem.W.Frag} {d : DefRec} {x : Str} {c P : Addr} (G : PySem.W.Ground q loose [] XP w s₀ mg mb h) (X : K.In h) (hr : (recsOf q).find? (fun e => e.name == x) = some d) (ht : PySem.W.tabIn K x = some (c, P)) :
    PySem.W.CodeHd h c P ∧ h.get? P = some tab0 := PySem.W.tab_of G.T X hr ht
end Mp
set_option maxHeartbeats 4000000
namespace Mp
open PySem PySem.Spec PyProof.Rows L2
/-- repr(x): x's data and how it is shown -/
def rRepr (K : PySem.W.Frag) (A : Around) : List V → Hp → VK → Prop := fun xs H Q => ∃ (x : V) (p : PyData), xs = [x] ∧ Dp K H x p ∧ p.showable = true ∧ p.hasDict = false ∧ (∀ i, p = .int i → i.natAbs.log2 < 1920) ∧ p.shown.length ≤ sizeLine ∧ A.units + (p.depth + 1) < cLine ∧ Q (.str p.shown) H
section
variable {X : Cx}
theorem call_repr (hg : X.A.guards = some []) : CallR X (.builtin "repr") (rRepr X.K X.A) := by
  intro pins s σ H xs us Q I r h
  obtain ⟨x, p, rfl, dp, hs, hd, hi, hz, hu, q⟩ := h
  obtain ⟨u, rfl, ru⟩ := vals1 r
  obtain ⟨as, rd⟩ := Dp.reads I p x u dp ru
  have viaR : ∀ a : Addr, u = .ref a → wpAny (model X.prog X.w) X.A (call (.builtin "repr") [u]) (EP X pins σ Q) X.xe s := fun a e => by
    subst e
    exact repr_of_reads' rd hs (fun z => by rw [hd] at z; cases z) hg hu (fun _ _ e => e) (fun h' v tk hk => ⟨.str p.shown, H, I.kept hk, ⟨v, rfl⟩, q⟩) hz
  cases dp with
  | non => cases ru; exact PySem.P.repr_of_none ⟨.str _, H, I.tok _, ⟨_, rfl⟩, q⟩
  | bl b => cases ru; exact PySem.P.repr_of_bool ⟨.str _, H, I.tok _, ⟨_, by cases b <;> rfl⟩, q⟩
  | int i =>
    obtain ⟨t, rfl⟩ := ru
    exact PySem.P.repr_of_int (hi i rfl) ⟨.str _, H, I.tok _, ⟨_, rfl⟩, q⟩
  | str a =>
    obtain ⟨t, rfl⟩ := ru
    exact PySem.P.repr_of_str ⟨.str _, H, I.tok _, ⟨_, rfl⟩, q⟩ hz
  | _ => exact viaR _ ru
end
end Mp
set_option maxHeartbeats 4000000
namespace Mp
open PySem PySem.Spec PyProof.Rows L2
variable [TabsW] [GdW]
theorem showB_of {p : PyData} (h : showB p = true) : p.showable = true ∧ p.hasDict = false ∧ (∀ i, p = .int i → i.natAbs.log2 < 1920) ∧ p.shown.length ≤ BIG ∧ p.depth ≤ 60 := by
  unfold showB at h
  simp only [Bool.and_eq_true, Bool.not_eq_true', decide_eq_true_eq] at h
  obtain ⟨⟨⟨⟨h1, h2⟩, h3⟩, h4⟩, h5⟩ := h
  refine ⟨h1, h2, fun i e => ?_, h4, h5⟩
  subst e
  simpa using h3
theorem dp_top {K : PySem.W.Frag} {H : Hp} {M : AS} {d : D} {x : V} {p : PyData} (r : RepT K H M d x) (t : toPy d = some p) : Dp K H x p := dp_of d x p r.loose t
/-- repr of data -/
theorem s_repr {k : Nat} {K : PySem.W.Frag} {A : Around} (hr : L2.Room k A) : CaS K (rRepr K A) (bltD .repr) := by
  intro M xs H ps z Q r hM e kk
  obtain ⟨d, x, rfl, rfl, rd⟩ := one_of r e rfl (fun a b c => by cases a <;> rfl)
  have e : reprD d = some z := e
  unfold reprD at e
  cases h : toPy d with
  | none => rw [h] at e; cases e
  | some p =>
    rw [h] at e
    dsimp only at e
    by_cases hs : showB p = true
    · rw [if_pos hs] at e; cases e
      obtain ⟨h1, h2, h3, h4, h5⟩ := showB_of hs
      have hz : sizeLine = 16777216 := sizeLine_eq
      have hu := hr.units
      exact ⟨x, p, rfl, dp_top rd h, h1, h2, h3, by unfold BIG at h4; omega, by omega, kk _ _ Stp.refl (by unfold Rep; rfl)⟩
    · rw [if_neg hs] at e; cases e
def tellV (K : PySem.W.Frag) (H : Hp) (rep : Bool) (v w : V) : Prop := match rep with
  | true => ∃ p, Dp K H v p ∧ showB p = true ∧ w = .str p.shown
  | false => w = v
/-- the error is c's, and what is told of it -/
def saidC (K : PySem.W.Frag) (c : HC) (cls : Value) (d : Option Addr) (H : Hp) (Q : VK) : Prop :=
  cls = .ref (clsAt K c.C) ∧ ∃ (dd : Addr) (v w : V), d = some dd ∧ H dd = some (.xd [(c.f, v)]) ∧ tellV K H c.rep v w ∧ ∀ l, H l = none → Q (.ref l) (upd H l (.lst [.str c.lab, w]))
def wHC (K : PySem.W.Frag) : List HC → Value → Option Addr → Hp → VK → Prop
  | [], _, _, _, _ => False
  | c :: cs, cls, d, H, Q => ∃ b, PySem.W.exmOne K cls (.ref (clsAt K c.C)) = some b ∧ (b = true → saidC K c cls d H Q) ∧ (b = false → wHC K cs cls d H Q)
def THeard (K : PySem.W.Frag) (cs : List HC) : (XK → Hp → VK → Prop) → Hp → VK → Prop := fun tl H Q => tl (fun cls d H' => wHC K cs cls d H' Q) H (fun _ H' => Q .non H')
/-- what a clause's suite says -/
def clT (K : PySem.W.Frag) (i : Nat) (c : HC) : Addr → Value → Option Addr → TS := fun ea cls d D σ H => (i < σ.length → σ[i]? = some (some (.ref ea))) ∧ saidC K c cls d H D.rt
def clOf (K : PySem.W.Frag) (i : Nat) (c : HC) : Cl := (.ref (clsAt K c.C), clT K i c)
theorem wHC_cls {K : PySem.W.Frag} {i : Nat} {D : Ends} {cls : Value} {d : Option Addr} {σ : L2.St} {H : Hp} : ∀ {cs : List HC}, wHC K cs cls d H D.rt → wCls K i D (cs.map (clOf K i)) cls d σ H
  | [], h => h.elim
  | c :: cs, h => by
    obtain ⟨b, h1, h2, h3⟩ := h
    exact ⟨b, h1, fun hb ea _ => ⟨fun hi => List.getElem?_set_self (by simpa using hi), h2 hb⟩, fun hb => wHC_cls (h3 hb)⟩
/-- e.f, e the error of a suite -/
def tBy (C : Addr) (f : Str) (a : Addr) (cls : Value) (d : Option Addr) (te : TE) : TE := fun σ H Q => te σ H fun x H1 => x = .ref a ∧ cls = .ref C ∧ ∃ (dd : Addr) (v : V), d = some dd ∧ H1 dd = some (.xd [(f, v)]) ∧ Q v H1
section
variable {Y : Cx} {c : HC} {i : Nat} {n : Str} {ea : Addr} {eo : Obj} {cls : Value} {d : Option Addr} {pn : List (Addr × Obj)} {p1 p2 p3 p4 p5 p6 p7 : Pos} {j : Nat}
theorem cl_rep {k : Nat} (hrep : c.rep = true) (by_ : PE (Y.suite ea ((ea, eo) :: pn)) (.Attribute (.Name n p1) c.f p2) (tBy (clsAt Y.K c.C) c.f ea cls d (tVar i))) (hi : i < Y.N.length) (hgd : Y.A.guards = some []) (hu : Y.A.units + 64 < cLine) (hg : Gl Y "repr") (hm : Y.mg "repr" = none) :
    PSs (Y.suite ea ((ea, eo) :: pn)) [.Return (some (.List [.Constant (.str c.lab) j p3, .Call (.Name "repr" p4) [.Attribute (.Name n p1) c.f p2] [] p5] p6)) p7] (clT Y.K i c ea cls d) := by
  have cr : CallR (Y.suite ea ((ea, eo) :: pn)) (.builtin "repr") (rRepr Y.K Y.A) := call_repr (X := Y.suite ea ((ea, eo) :: pn)) hgd
  have pr := pss_one (ps_ret (pos := p7) (pe_lst (pos := p6) (pa_cons (pe_str (X := Y.suite ea ((ea, eo) :: pn)) (x := c.lab) (j := j) (pos := p3)) (pa_cons (pe_callB (p := p4) (pos := p5) cr hg hm rfl (pa_cons by_ pa_nil)) pa_nil))))
  refine ⟨fun pins s σ H D I h => pr.run pins s σ H D I ?_⟩
  obtain ⟨h0, h1, dd, v, w, h2, h3, h4, h5⟩ := h
  have hl : σ.length = Y.N.length := I.len
  rw [hrep] at h4
  obtain ⟨p, q1, q2, rfl⟩ := h4
  obtain ⟨g1, g2, g3, g4, g5⟩ := showB_of q2
  have hz : sizeLine = 16777216 := sizeLine_eq
  refine ⟨.ref ea, h0 (by rw [hl]; exact hi), rfl, h1, dd, v, h2, h3, v, p, rfl, q1, g1, g2, g3, by unfold BIG at g4; omega, ?_, ?_, ?_⟩
  · have : (Y.suite ea ((ea, eo) :: pn)).A.units = Y.A.units := rfl
    omega
  · show 2 ≤ sizeLine
    omega
  · exact h5
theorem cl_dat (hrep : c.rep = false) (by_ : PE (Y.suite ea ((ea, eo) :: pn)) (.Attribute (.Name n p1) c.f p2) (tBy (clsAt Y.K c.C) c.f ea cls d (tVar i))) (hi : i < Y.N.length) :
    PSs (Y.suite ea ((ea, eo) :: pn)) [.Return (some (.List [.Constant (.str c.lab) j p3, .Attribute (.Name n p1) c.f p2] p6)) p7] (clT Y.K i c ea cls d) := by
  have pr := pss_one (ps_ret (pos := p7) (pe_lst (pos := p6) (pa_cons (pe_str (X := Y.suite ea ((ea, eo) :: pn)) (x := c.lab) (j := j) (pos := p3)) (pa_cons by_ pa_nil))))
  refine ⟨fun pins s σ H D I h => pr.run pins s σ H D I ?_⟩
  obtain ⟨h0, h1, dd, v, w, h2, h3, h4, h5⟩ := h
  have hl : σ.length = Y.N.length := I.len
  rw [hrep] at h4
  have h4 : w = v := h4
  subst h4
  have hz : sizeLine = 16777216 := sizeLine_eq
  refine ⟨.ref ea, h0 (by rw [hl]; exact hi), rfl, h1, dd, w, h2, h3, ?_, h5⟩
  show 2 ≤ sizeLine
  omega
end
end Mp
set_option maxHeartbeats 4000000
namespace Mp
open PySem PySem.Spec PyProof.Rows L2
variable [TabsW] [GdW]
section
variable {X : Cx}
/-- try: call() / except .. as e: return .. / return None -/
theorem heard_gives {cs : List HC} {Ng : List Str} {x a e q : Str} {sg : Scope} {g : Addr} {cdg : Value} {j : Nat} {i : Nat} {e0 : ExceptHandler} {es : List ExceptHandler} {p1 p2 p3 p5 p6 p8 : Pos}
    (nd : Ng.Nodup) (ni : Ng[i]? = some e) (kl : sg.names.lookup e = some .local) (h0 : ∀ f : Addr, (L2.start Ng [V.ref f])[0]? = some (some (V.ref f)))
    (ok : ∀ (s : Shared) (H : Hp), ClsOk (cxOf C8.CX0 X.prog X.w X.K X.mg X.base Ng x sg g cdg X.A X.stack s H C8.E0).nox e (e0 :: es) (cs.map (clOf X.K i))) :
    LamX.GivesTo X Ng x sg g cdg [.Try [.Expr (.Call (.Name a p1) [] [] p2) p3] (e0 :: es) [] [] p8, .Return (some (.Constant .none j p5)) p6] a q (THeard X.K cs) := by
  intro f c' s H Q tl act hc h
  have st := ps_try_cls (X := (cxOf C8.CX0 X.prog X.w X.K X.mg X.base Ng x sg g cdg X.A X.stack s H C8.E0).nox) (n := e) (i := i) (pos := p8) (l := cs.map (clOf X.K i)) (body := [.Expr (.Call (.Name a p1) [] [] p2) p3])
      (tb := fun W D σ H => ∃ Ech : XK, (∀ cls d σ' H', Ech cls d H' → W cls d σ' H') ∧ σ[0]? = some (some (.ref f)) ∧ H c' = some (LamX.CodeO c' q) ∧ tl Ech H fun _ H' => D.nx σ H')
      rfl rfl nd ni kl (fun W pn xe tk _ => by
        refine ⟨fun pins s' σ H' D I h' => ?_⟩
        obtain ⟨Ech, hW, h1, h2, h3⟩ := h'
        have hp := act W pn xe Ech p1 p2 tk hW
        exact (pss_one (ps_expr (pos := p3) hp)).run pins s' σ H' D I ⟨h1, h2, h3⟩) (ok s H)
  refine ⟨_, pss_cons st (pss_one (ps_ret (pos := p6) (pe_non (j := j) (pos := p5)))), ?_⟩
  refine ⟨fun cls d H' => wHC X.K cs cls d H' Q, fun cls d σ' H' hw => wHC_cls hw, h0 f, hc, ?_⟩
  exact h
end
structure ClsFacts (K : PySem.W.Frag) (cs : List HC) : Prop where
  ex : ∀ c ∈ cs, ∀ c' ∈ cs, PySem.W.exmOne K (.ref (clsAt K c.C)) (.ref (clsAt K c'.C)) = some (decide (c.C = c'.C))
theorem hear_mem {C f : Str} {d x : D} : ∀ {cs : List HC}, hear cs C f d = some x → ∃ c ∈ cs, C = c.C ∧ f = c.f
  | [], h => by cases h
  | c :: cs, h => by
    unfold hear at h
    by_cases h1 : C = c.C
    · rw [if_pos h1] at h
      by_cases h2 : f = c.f
      · exact ⟨c, List.mem_cons_self, h1, h2⟩
      · rw [if_neg h2] at h; cases h
    · rw [if_neg h1] at h
      obtain ⟨c', m, z⟩ := hear_mem h
      exact ⟨c', List.mem_cons_of_mem _ m, z⟩
theorem hear_said {K : PySem.W.Frag} {all : List HC} (F : ClsFacts K all) {C f : Str} {d x : D} {dd : Addr} {v : V} {H : Hp} {M : AS} {Q : VK} {c0 : HC} (m0 : c0 ∈ all) (e0 : C = c0.C) (hd : H dd = some (.xd [(f, v)])) (rd : Rep K H M d v)
    (k : ∀ l xs ds, x = .lst ds → H l = none → RepL K H M ds xs → Q (.ref l) (upd H l (.lst xs))) : ∀ {cs : List HC}, (∀ c ∈ cs, c ∈ all) → hear cs C f d = some x → wHC K cs (.ref (clsAt K C)) (some dd) H Q
  | [], _, h => by cases h
  | c :: cs, hm, h => by
    have hex := F.ex c0 m0 c (hm c List.mem_cons_self)
    rw [← e0] at hex
    refine ⟨_, hex, fun hb => ?_, fun hb => ?_⟩
    · have hC : C = c.C := of_decide_eq_true hb
      unfold hear at h
      rw [if_pos hC] at h
      by_cases hf : f = c.f
      · rw [if_pos hf] at h
        refine ⟨by rw [hC], dd, v, ?_⟩
        cases hr : c.rep with
        | false =>
          rw [hr] at h
          cases h
          exact ⟨v, rfl, by rw [← hf]; exact hd, rfl, fun l hl => k l _ _ rfl hl (RepL.cons (by unfold Rep; rfl) (RepL.cons rd RepL.nil))⟩
        | true =>
          rw [hr, if_pos rfl] at h
          unfold reprD at h
          cases ht : toPy d with
          | none => rw [ht] at h; cases h
          | some p =>
            rw [ht] at h
            dsimp only at h
            by_cases hs : showB p = true
            · rw [if_pos hs] at h
              cases h
              exact ⟨.str p.shown, rfl, by rw [← hf]; exact hd, ⟨p, dp_of d v p rd ht, hs, rfl⟩, fun l hl => k l _ _ rfl hl (RepL.cons (by unfold Rep; rfl) (RepL.cons (by unfold Rep; rfl) RepL.nil))⟩
            · rw [if_neg hs] at h; cases h
      · rw [if_neg hf] at h; cases h
    · have hC : ¬ C = c.C := of_decide_eq_false hb
      unfold hear at h
      rw [if_neg hC] at h
      exact hear_said F m0 e0 hd rd k (fun c' h' => hm c' (List.mem_cons_of_mem _ h')) h
theorem stp_ext {H H1 : Hp} (e : LamX.ExtN H H1) (t : LamX.Tabs TabsW.T H1) : Stp NoA H H1 := ⟨fun a o h _ n => e a o h n, fun a ⟨o, h, n⟩ => ⟨o, e a o h n, n⟩, fun P q m _ => t (P, q) m⟩
theorem heard_read {K : PySem.W.Frag} {G : Ctx} {W : WX} {cs : List HC} (F : ClsFacts K cs) {i : IR} {σ : L2.St} {H : Hp} {Q : VK} (q : tI G W K (.heard cs i) σ H Q) :
    LamX.tLam TabsW.T (THeard K cs) (fun E => tI G (fun cls d _ H' => E cls d H') K i) σ H Q := by
  obtain ⟨H0, M0, A, env, E, q⟩ := q
  rw [ev] at q
  refine ⟨fun p hp => E.tb p.1 p.2 hp, fun H1 e1 t1 => ?_⟩
  have s0 : Stp NoA H H1 := stp_ext e1 t1
  have E1 := E.keep s0
  refine ⟨H0, M0, A, env, E1, ?_⟩
  cases h : ev G i env with
  | bad => rw [h] at q; exact q.elim
  | ok o e2 =>
    rw [h] at q
    intro H' s u E' v hv
    exact q H' (s0.no.trans s) u E' .non (by unfold OpdR Rep; rfl)
  | exc C f d e2 =>
    rw [h] at q
    dsimp only at q
    cases hx : hear cs C f d with
    | none => rw [hx] at q; exact q.elim
    | some x =>
      rw [hx] at q
      intro dd v H' s u E' hd rd
      obtain ⟨c0, m0, e0, _⟩ := hear_mem hx
      refine hear_said F m0 e0 hd rd (fun l xs ds ex hl rr => ?_) (fun _ z => z) hx
      subst ex
      exact q _ ((s0.no.trans s).trans (Stp.new hl)) u (E'.new hl) (.ref l) (rep_new hl (E'.fresh hl).1 rr)
section
variable {X : Cx} {G : Ctx} {W : WX}
/-- heard(lambda: body) -/
theorem e_heard {cs : List HC} {i : IR} {x a : Str} {g c P : Addr} {k : Nat} {pg : Arguments} {bg : List Stmt} {sg : Scope} {dV kV doc pm cdv ct oc : Value} {an od : Option Addr} {osl : Array (Option Value)} {Ng : List Str}
    {params : Arguments} {body : Expr} {scope : Scope} {p lpos pos : Pos} (F : ClsFacts X.K cs) (hg : Gl X x) (hm : X.mg x = some (.ref g)) (hk : PySem.W.keepIn X.K (.ref g) = true)
    (lk : X.K.lookup g = some ⟨oc, od, .func (PySem.W.fnOf x x pg bg sg dV kV doc pm an cdv ct), osl⟩) (hcg : PySem.W.codeIn X.K cdv x = true) (hb : L2.Binds X.K (PySem.W.fnOf x x pg bg sg dV kV doc pm an cdv ct) [a] []) (Sg : FnScope Ng [a] sg) (hNg : Ng[0]? = some a) (hva : Vis sg a)
    (hG : LamX.GivesTo X Ng x sg g cdv bg a (X.env.qual ++ "<lambda>") (THeard X.K cs))
    (TB : LamX.TabB X.base X.mg c P) (hcode : X.env.code = .ref c) (hmT : (P, X.env.qual ++ "<lambda>") ∈ TabsW.T) (hu : ∀ p ∈ TabsW.T, p.1 = P → p.2 = X.env.qual ++ "<lambda>") (hr : L2.Room (k + 2) X.A) (L : LamX.LamS X.env.scope scope) (hdef : defaultsOf params X.env = ([], []))
    (hbind : ∀ (q : Str) (cl : List (Str × Addr)) (pm cv ctv : Value), bindArgs (PySem.W.kla_fn "<lambda>" q params body scope cl pm cv ctv) ⟨[], []⟩ = pure [])
    (hbody : ∀ (A : Around) (outer : List PySem.Env) (s : Shared) (H : Hp) (E : XK) (f c' : Addr), L2.Room k (A.deeper (LamX.lamEnv X scope s.heap.objs.size f c')) → PE (LamX.lamCx X A outer s H E scope f c') body (tI G (fun cls d _ H' => E cls d H') X.K i))
    (hdb : (x == ("__debug__" : Str)) = false := by decide) (hd : (a == ("__debug__" : Str)) = false := by decide) (hcd : (a == ("__classdict__" : Str)) = false := by decide) :
    PE X (.Call (.Name x p) [.Lambda params body scope lpos] [] pos) (tI G W X.K (.heard cs i)) :=
  PE.by_ (LamX.pe_lamcall hg hm hk lk hcg hb Sg hNg hva hG TB hcode hmT hu hr L hdef hbind hbody hdb hd hcd) fun σ H Q q => heard_read F q
theorem lam_takes {A : Around} {outer : List PySem.Env} {s : Shared} {H : Hp} {E : XK} {scope : Scope} {f c' : Addr} : Takes (LamX.lamCx X A outer s H E scope f c') (fun cls d _ H' => E cls d H') := takes_of rfl rfl rfl rfl
end
/-- the room of a lambda's body: nothing is known of the guards -/
theorem Room.plain {k : Nat} {A : Around} (h : L2.Room k A) : @Room ⟨False⟩ k A := @Room.mk ⟨False⟩ k A h (fun z => z.elim)
end Mp
set_option maxHeartbeats 4000000
theorem L2.Room.u100 {k : Nat} {A : PySem.Around} (h : L2.Room k A) : A.units + 100 < PySem.cLine := by have := h.un; omega
namespace Mp
open PySem PySem.Spec PyProof.Rows L2
variable [TabsW] [GdW]
section
variable {X : Cx} {G : Ctx} {W : WX}
theorem b_repr {k : Nat} {a : Expr} {i : IR} {p pos : Pos} (hgd : X.A.guards = some []) (hr : L2.Room k X.A) (hm : X.mg "repr" = none) (hg : Gl X "repr") (ha : PE X a (tI G W X.K i)) (h1 : starB a = false) : PE X (.Call (.Name "repr" p) [a] [] pos) (tI G W X.K (.blt .repr [i])) :=
  e_bltF (call_repr hgd) (s_repr hr) hg hm rfl (ar_cons ha ar_nil h1) (by simp [h1]) (by decide) rfl
theorem e_callP {k j : Nat} {f : Fn} {x : Str} {e : Expr} {es : List Expr} {is : List IR} {p pos : Pos} (F : @FnF _ ⟨False⟩ X.prog X.w X.K X.mg X.base k x f) (hj : G.fns[j]? = some f) (hr : L2.Room k X.A) (tk : Takes X W) (hg : Gl X x) (ha : PA X (e :: es) (tIa G W X.K f.io 0 is)) (h1 : (e :: es).any starB = false) :
    PE X (.Call (.Name x p) (e :: es) [] pos) (tI G W X.K (.call j is)) := @e_call _ ⟨False⟩ X G W k j f x e es is p pos F hj (Room.plain hr) tk hg ha h1
end
section
variable {P : Program} {w : World} {K : PySem.W.Frag} {mg : Str → Option Value} {base : Heap} {G : Ctx}
/-- a def by its body, where its code object is known -/
theorem fn_bodyC {x qual : Str} {st : Stmt} {f c : Addr} {fd : FuncData} {N ps : List Str} {k : Nat} {io : Option Nat} {b : List ST} (F : Fun K x qual st f fd) (hc : fd.code = .ref c) (S : FnScope N ps (defScope st)) (hn : ps.length ≤ N.length)
    (hb : ∀ (A : Around) (outer : List PySem.Env) (s : Shared) (H : Hp) (E : XK), Room k (A.deeper (envOfC qual (defScope st) s.heap.objs.size f (.ref c))) →
      PSs (cxOf (L2.CX P w) P w K mg base N qual (defScope st) f (.ref c) A outer s H E) (defBody st) (tSs G (fun cls d _ H' => E cls d H') K b)) :
    FnOk P w K mg base (L2.CX P w) (k + 1) f fd ps (spF K ps.length io (semB G N.length io b)) := by
  obtain ⟨oc, od, kV, doc, pm, an, cdv, ct, osl, rfl, lk, hcd⟩ := F.ex
  have e : cdv = .ref c := hc
  subst e
  exact fn_text lk hcd S (fun vs H Q E h => h.1) fun A out s H vs Q E hr h => ⟨_, hb A out s H E hr, body_read hn h⟩
/-- where a def's lambdas are kept -/
structure LamT (base : Heap) (mg : Str → Option Value) (fd : FuncData) (q : Str) (c P : Addr) : Prop where
  code : fd.code = .ref c
  tb : LamX.TabB base mg c P
  mem : (P, q ++ "<lambda>") ∈ TabsW.T
  one : ∀ p ∈ TabsW.T, p.1 = P → p.2 = q ++ "<lambda>"
/-- the def that calls what it got -/
structure HrdF (K : PySem.W.Frag) (mg : Str → Option Value) (x : Str) (st : Stmt) (a : Str) (g : Addr) (cdv : Value) : Prop where
  mg : mg x = some (.ref g)
  kp : PySem.W.keepIn K (.ref g) = true
  ex : ∃ (dV kV doc pm ct oc : Value) (an od : Option Addr) (osl : Array (Option Value)), K.lookup g = some ⟨oc, od, .func (PySem.W.fnOf x x (defArgs st) (defBody st) (defScope st) dV kV doc pm an cdv ct), osl⟩ ∧ L2.Binds K (PySem.W.fnOf x x (defArgs st) (defBody st) (defScope st) dV kV doc pm an cdv ct) [a] []
  cd : PySem.W.codeIn K cdv x = true
end
section
variable {X : Cx} {G : Ctx} {W : WX}
theorem e_hrd {cs : List HC} {i : IR} {x a q : Str} {g c P : Addr} {k : Nat} {st : Stmt} {cdv : Value} {Ng : List Str} {fd : FuncData} {params : Arguments} {body : Expr} {scope : Scope} {p lpos pos : Pos} (EF : ClsFacts X.K cs) (HF : HrdF X.K X.mg x st a g cdv) (Sg : FnScope Ng [a] (defScope st)) (hNg : Ng[0]? = some a) (hva : Vis (defScope st) a)
    (hG : LamX.GivesTo X Ng x (defScope st) g cdv (defBody st) a (X.env.qual ++ "<lambda>") (THeard X.K cs)) (T : LamT X.base X.mg fd q c P) (hq : X.env.qual = q) (hcode : X.env.code = .ref c) (hr : L2.Room (k + 2) X.A) (hg : Gl X x) (L : LamX.LamS X.env.scope scope) (hdef : defaultsOf params X.env = ([], []))
    (hbind : ∀ (q : Str) (cl : List (Str × Addr)) (pm cv ctv : Value), bindArgs (PySem.W.kla_fn "<lambda>" q params body scope cl pm cv ctv) ⟨[], []⟩ = pure [])
    (hbody : ∀ (A : Around) (outer : List PySem.Env) (s : Shared) (H : Hp) (E : XK) (f c' : Addr), L2.Room k (A.deeper (LamX.lamEnv X scope s.heap.objs.size f c')) → PE (LamX.lamCx X A outer s H E scope f c') body (tI G (fun cls d _ H' => E cls d H') X.K i))
    (hdb : (x == ("__debug__" : Str)) = false) (hd : (a == ("__debug__" : Str)) = false) (hcd : (a == ("__classdict__" : Str)) = false) : PE X (.Call (.Name x p) [.Lambda params body scope lpos] [] pos) (tI G W X.K (.heard cs i)) := by
  obtain ⟨dV, kV, doc, pm, ct, oc, an, od, osl, lk, hb⟩ := HF.ex
  subst hq
  exact e_heard EF hg HF.mg HF.kp lk HF.cd hb Sg hNg hva hG T.tb hcode T.mem T.one hr L hdef hbind hbody hdb hd hcd
end
end Mp
set_option maxHeartbeats 2000000
namespace Mp
open PySem L2
mutual
theorem eqD_self : ∀ (n : Nat) (d : D), dataD n d = true → eqD d d = true
  | _, .non, _ => by rw [eqD]
  | _, .bl b, _ => by rw [eqD]; simp
  | _, .int i, _ => by rw [eqD]; simp
  | _, .str s, _ => by rw [eqD]; simp
  | 0, .lst ds, h => by simp [dataD] at h
  | 0, .tup ds, h => by simp [dataD] at h
  | n + 1, .lst ds, h => by rw [dataD] at h; rw [eqD]; exact eqDs_self n ds h
  | n + 1, .tup ds, h => by rw [dataD] at h; rw [eqD]; exact eqDs_self n ds h
  | 0, .obj _ _ _, h => by simp [dataD] at h
  | 0, .raw _, h => by simp [dataD] at h
  | n + 1, .obj _ _ _, h => by simp [dataD] at h
  | n + 1, .raw _, h => by simp [dataD] at h
  | 0, .dct, h => by simp [dataD] at h
  | n + 1, .dct, h => by simp [dataD] at h
  | 0, .fn _, h => by simp [dataD] at h
  | n + 1, .fn _, h => by simp [dataD] at h
theorem eqDs_self : ∀ (n : Nat) (ds : List D), dataDs n ds = true → eqDs ds ds = true
  | _, [], _ => by rw [eqDs]
  | n, d :: ds, h => by
    rw [dataDs, Bool.and_eq_true] at h
    rw [eqDs, eqD_self n d h.1, eqDs_self n ds h.2]; rfl
end
theorem cmp_nself {d : D} (h : dataD 20 d = true) : cmpD .ne d d = some false := by
  show (if dataD 20 d && dataD 20 d then some (!eqD d d) else none) = _
  rw [h, eqD_self 20 d h]; rfl
theorem dataDs_all {n : Nat} : ∀ {ds : List D}, (∀ d, d ∈ ds → dataD n d = true) → dataDs n ds = true
  | [], _ => by rw [dataDs]
  | d :: ds, h => by
    rw [dataDs, h d List.mem_cons_self, dataDs_all fun e he => h e (List.mem_cons_of_mem _ he)]; rfl
theorem dataD_lst {n : Nat} {ds : List D} (h : ∀ d, d ∈ ds → dataD n d = true) : dataD (n + 1) (.lst ds) = true := by rw [dataD]; exact dataDs_all h
theorem dataD_tup {n : Nat} {ds : List D} (h : ∀ d, d ∈ ds → dataD n d = true) : dataD (n + 1) (.tup ds) = true := by rw [dataD]; exact dataDs_all h
theorem dataD_int {n : Nat} {i : Int} : dataD n (.int i) = true := by cases n <;> rw [dataD]
theorem dataD_non {n : Nat} : dataD n .non = true := by cases n <;> rw [dataD]
theorem dataD_bl {n : Nat} {b : Bool} : dataD n (.bl b) = true := by cases n <;> rw [dataD]
section
variable [TabsW] [GdW]
theorem iota_map' (lo : Nat) : ∀ n, iotaD lo n = (List.range' lo n).map fun k : Nat => D.int (k : Int)
  | 0 => rfl
  | n + 1 => by
    rw [iotaD, List.range'_succ, List.map_cons, ← iota_map' (lo + 1) n]
    rfl
theorem lcLoop_map {α : Type} {env0 : Env} {i : Nat} {T : Option (Env → R Bool)} {E : Env → R D} {f g : α → D} {p : α → Bool} (hi : i < env0.length) : ∀ (l : List α) (env : Env), env.set i none = env0.set i none →
    (∀ a, a ∈ l → tstR T (env0.set i (some (.dat (f a)))) = .ok (p a) (env0.set i (some (.dat (f a))))) →
    (∀ a, a ∈ l → p a = true → E (env0.set i (some (.dat (f a)))) = .ok (g a) (env0.set i (some (.dat (f a))))) →
    ∃ env', lcLoop [i] (.name i) T E (l.map f) env = .ok ((l.filter p).map g) env' ∧ env'.set i none = env0.set i none
  | [], env, h, _, _ => ⟨env, rfl, h⟩
  | a :: l, env, h, hT, hE => by
    have hb : bindT (.name i) (f a) (wipeE env [i]) = some (env0.set i (some (.dat (f a)))) := by
      show (if freeB (env.set i none) i = true then some ((env.set i none).set i (some (Cell.dat (f a)))) else none) = _
      rw [h, if_pos (free_wipe hi), List.set_set]
    have t := hT a List.mem_cons_self
    obtain ⟨env', e1, e2⟩ := lcLoop_map hi l (env0.set i (some (.dat (f a)))) (by rw [List.set_set]) (fun d hd => hT d (List.mem_cons_of_mem _ hd)) (fun d hd => hE d (List.mem_cons_of_mem _ hd))
    rw [List.map_cons, lcLoop_cons hb, t]
    refine ⟨env', ?_, e2⟩
    cases hp : p a with
    | false =>
      rw [List.filter_cons_of_neg (by rw [hp]; decide)]
      exact e1
    | true =>
      rw [List.filter_cons_of_pos hp, List.map_cons]
      show ((E (env0.set i (some (.dat (f a))))).bind fun x env3 => (lcLoop [i] (.name i) T E (l.map f) env3).bind fun xs env4 => R.ok (x :: xs) env4) = _
      rw [hE a List.mem_cons_self hp]
      show ((lcLoop [i] (.name i) T E (l.map f) (env0.set i (some (.dat (f a))))).bind fun xs env4 => R.ok (g a :: xs) env4) = _
      rw [e1]; rfl
variable {G : Ctx}
theorem lc_go {tg : Tgt} {it : IT} {t : Option IR} {e : IR} {own : List Nat} {env env0 env' : Env} {ds xs : List D} (hit : evi G it env = .ok ds env0) (hl : ds.length ≤ BIG) (hh : own.all (hideB env0) = true) (ho : (tgOwn tg).all (fun j => own.contains j) = true)
    (h : lcLoop own tg (tsF G t) (fun x => (ev G e x).take) ds env0 = .ok xs env') : ev G (.lc tg it t e own) env = .ok (.val (.lst xs)) (backE env0 env' own) := by
  rw [ev_lc, hit]
  show (if ds.length ≤ BIG ∧ own.all (hideB env0) = true ∧ (tgOwn tg).all (fun j => own.contains j) = true then _ else _) = _
  rw [if_pos ⟨hl, hh, ho⟩, h]
  rfl
/-- [e for x in it if t], it being a list made of l by f -/
theorem ev_lc_filt {α : Type} {i : Nat} {it : IT} {t e : IR} {env env0 : Env} {l : List α} {f g : α → D} (p : α → Bool) (hit : evi G it env = .ok (l.map f) env0) (hl : l.length ≤ BIG) (hh : hideB env0 i = true) (hi : i < env0.length)
    (hT : ∀ a, a ∈ l → truR (ev G t (env0.set i (some (.dat (f a))))) = .ok (p a) (env0.set i (some (.dat (f a)))))
    (hE : ∀ a, a ∈ l → p a = true → (ev G e (env0.set i (some (.dat (f a))))).take = .ok (g a) (env0.set i (some (.dat (f a))))) :
    ev G (.lc (.name i) it (some t) e [i]) env = .ok (.val (.lst ((l.filter p).map g))) env0 := by
  obtain ⟨env', e1, e2⟩ := lcLoop_map (T := tsF G (some t)) (E := fun x => (ev G e x).take) (f := f) (g := g) (p := p) hi l env0 rfl hT hE
  rw [lc_go hit (by simpa using hl) (by simp [hh]) (by simp [tgOwn]) e1, back_same e2]
theorem ev_lc_map {α : Type} {i : Nat} {it : IT} {e : IR} {env env0 : Env} {l : List α} {f g : α → D} (hit : evi G it env = .ok (l.map f) env0) (hl : l.length ≤ BIG) (hh : hideB env0 i = true) (hi : i < env0.length)
    (hE : ∀ a, a ∈ l → (ev G e (env0.set i (some (.dat (f a))))).take = .ok (g a) (env0.set i (some (.dat (f a))))) :
    ev G (.lc (.name i) it none e [i]) env = .ok (.val (.lst (l.map g))) env0 := by
  obtain ⟨env', e1, e2⟩ := lcLoop_map (T := tsF G none) (E := fun x => (ev G e x).take) (f := f) (g := g) (p := fun _ => true) hi l env0 rfl (fun _ _ => rfl) fun a ha _ => hE a ha
  rw [lc_go hit (by simpa using hl) (by simp [hh]) (by simp [tgOwn]) e1, back_same e2, List.filter_eq_self.mpr (fun _ _ => rfl)]
end
end Mp
set_option maxHeartbeats 4000000
set_option maxHeartbeats 8000000
namespace Mp
open PySem PySem.Spec PyProof PyProof.Rows L2
/-- a set just made -/
abbrev set0 (w : World) : Obj := { cls := .type "set", dict := none, data := .set #[] 0 (.fresh 0 0 (!w.params.followText "set-order")) }
section
variable {P : Program} {w : World} {A : Around} {E : Value → Shared → Prop} {s : Shared}
theorem call_setL {l : Addr} {items : Array Value} (ns : List Int) {Q : Value → Shared → Prop} (hh : A.handled = none) (hl : s.heap.IsList l items) (hit : IntsAre items.toList ns) (hb : ns.length + 1 < scanBound)
    (h : ∀ (h' : Heap) (tk c : Nat), SetR w h' s.heap.objs.size (fun j => decide (j ∈ ns)) c → c ≤ ns.length → (∀ b o, s.heap.get? b = some o → h'.get? b = some o) → Q (.ref s.heap.objs.size) { s with heap := h', toks := tk }) :
    wpAny (model P w) A (call (.type "set") [.ref l]) Q E s := by
  have hsz : items.size = ns.length := by have q := IntsAre.length hit; rwa [Array.length_toList] at q
  obtain ⟨_, _, hmro⟩ := F.called_set.mro
  have hmade := F.called_set.made
  have hsub := F.called_set.sub
  refine wpAny_call (codeAny_of_tree ?_)
  show wpAny _ _ (callAny (.type "set") _) _ _ _
  refine wpAny_pure ⟨Code.quiet_builtin _ (by decide +kernel), codeAny_builtin F.entry_type_call ?_⟩
  rw [Around.under_plain (weight_type_call_type "set" [.ref l] []) rfl]
  have h1 := F.called_set.notType
  have h2 := F.called_set.canCreate
  have hct := F.typeCall_set_1 (.ref l)
  repeat (any_goals (first | assumption | wp_step))
  refine codeAny_mono (code_set_led1 (.ref l) (E := E) (Q₁ := fun obj s₁ => obj = .ref s.heap.objs.size ∧ s₁ = { s with heap := s.heap.push (set0 w) }) ⟨rfl, rfl⟩) fun r s₁ hr => ?_
  cases r with
  | error e => exact hr
  | ok fl =>
    cases fl with
    | ret obj =>
      obtain ⟨rfl, rfl⟩ := hr
      have hS : (s.heap.push (set0 w)).get? s.heap.objs.size = some (set0 w) := Heap.get?_push_size _ rfl
      have hT : Shared.TypeIs { s with heap := s.heap.push (set0 w) } (.ref s.heap.objs.size) "set" := ⟨_, hS, rfl⟩
      have hli := F.called_set.init.lookup
      have hbi := F.called_set.init.bind (.ref s.heap.objs.size)
      repeat (any_goals (first | assumption | wp_step))
      refine codeAny_mono (codeAny_call_builtin (R := wants (fun r s₂ => r = .none ∧ ∃ h' tk c, s₂ = { s with heap := h', toks := tk } ∧ SetR w h' s.heap.objs.size (fun j => decide (j ∈ ns)) c ∧ c ≤ ns.length ∧ (∀ b o, s.heap.get? b = some o → h'.get? b = some o)) E)
        F.called_set.init.plain F.entry_set_init (check_set_init_1 hT ?_)) fun r₂ s₂ hr₂ => ?_
      · obtain ⟨⟨ocls, odict, odata, oslots⟩, hol, hcl, nl, hdl⟩ := hl
        simp only at hcl hdl
        subst hcl hdl
        have hl0 : s.heap.IsList l items := ⟨_, hol, rfl, nl, rfl⟩
        have hl1 : (s.heap.push (set0 w)).IsList l items := ⟨_, Heap.get?_push_of_some _ hol, rfl, nl, rfl⟩
        have hol' := Heap.get?_push_of_some (set0 w) hol
        have hsls := F.sub_list_set
        have hslf := F.sub_list_frozenset
        have hne : (Value.type "list" == Value.type "dict") = false := by decide
        have hlS : l < s.heap.objs.size := Heap.lt_size hol
        have hz : (s.heap.push (set0 w)).objs.size = s.heap.objs.size + 1 := Heap.size_push ..
        unfold Builtin.«set.__init__» noKeywords Builtin.Frozenset.updateFrom
        generalize hPI : pyIter = PI
        wp_walk
        subst hPI
        refine wpAny_pyIter_list hl1 (wpAny_bind (wpAny_runValue ?_))
        refine set_update_ints ((Walks.list (show A.in1.in1.in1.handled = none by simp [hh]) _ l (by rw [hz]; exact Nat.ne_of_lt (Nat.lt_succ_of_lt hlS)) items).toS) s.heap.objs.size (by rw [hz]; simp only [List.mem_cons, List.not_mem_nil, or_false, not_or]; exact ⟨Nat.ne_of_lt (Nat.lt_succ_self _), Nat.ne_of_gt hlS⟩) ns hsz hb (fun i v hv => ?_)
          (items.size - 0) 0 _ (by omega) (Nat.zero_le _) ⟨⟨_, Heap.get?_push_size _ rfl, rfl, rfl⟩, hl1.push _⟩ ⟨0, Nat.le_refl 0, setR_new_at (Heap.get?_push_of_some _ hS)⟩ (fun s' c' hm hc' hS' => ?_)
        · have hi : i < ns.length := by rw [← hsz]; exact (Array.getElem?_eq_some_iff.mp hv).1
          obtain ⟨t, e⟩ := IntsAre.int_at hit i v (by rw [Array.getElem?_toList]; exact hv)
          exact ⟨ns[i], t, List.getElem?_eq_getElem hi, by rw [e, List.getD_eq_getElem?_getD, List.getElem?_eq_getElem hi] <;> rfl⟩
        · obtain ⟨h', g2, d', tk', os'⟩ := s'
          obtain rfl : g2 = s.gens := hm.gens
          obtain rfl : d' = s.drawn := hm.drawn
          obtain rfl : os' = s.os := hm.os
          refine wpAny_pure (wpAny_pure ⟨rfl, h', tk', c', rfl, hS', by omega, fun b o e => ?_⟩)
          have hb0 : b < s.heap.objs.size := Heap.lt_size e
          exact hm.heap b o (by rw [hz]; simp only [List.mem_cons, List.not_mem_nil, or_false, not_or]; exact ⟨Nat.ne_of_lt hb0, Nat.ne_of_lt (Nat.lt_succ_of_lt hb0)⟩) (Heap.get?_push_of_some _ (Heap.get?_push_of_some _ e))
      · cases r₂ with
        | error e => exact hr₂
        | ok fl₂ =>
          cases fl₂ with
          | ret r =>
            obtain ⟨rfl, h', tk, c', rfl, hS', hc', hk'⟩ := hr₂
            repeat (any_goals (first | assumption | wp_step))
            exact h _ _ _ hS' hc' hk'
          | _ => exact hr₂.elim
    | _ => exact hr.elim
end
/-- a set of the ints ns -/
def rSetL (K : PySem.W.Frag) (w : World) : List V → Hp → VK → Prop := fun xs H Q => ∃ (l : Addr) (ns : List Int), xs = [V.ref l] ∧ SqL K H l (ns.map V.int) ∧ ns.length ≤ 4000 ∧ ∀ a c, H a = none → c ≤ ns.length → Q (.ref a) (upd H a (SetO w a (fun j => decide (j ∈ ns)) c))
theorem cr_setL {X : Cx} (hc : X.calm = true) : CallR X (.type "set") (rSetL X.K X.w) := by
  intro pins s σ H xs us Q I r h
  obtain ⟨l, ns, rfl, hl, hn, q⟩ := h
  rw [Vals.ref1 r]
  obtain ⟨its, rv, pl, hz⟩ := I.list hl
  refine call_setL ns (I.ok.hd hc) pl.isList (by simpa using RZ.intsAre_vals rv) (by unfold scanBound; omega) fun h' tk c R hc k => ?_
  exact ⟨.ref _, _, I.laid (t' := tk) k (Nat.le_refl _) (setO_new R), rfl, q _ c (I.hok.fresh (Nat.le_refl _)) hc⟩
theorem insI_mem (x k : Int) : ∀ ys : List Int, k ∈ insI x ys ↔ k = x ∨ k ∈ ys
  | [] => by unfold insI; simp
  | y :: ys => by
    unfold insI
    split
    · simp
    · split
      · rename_i h; subst h; simp
      · rw [List.mem_cons, insI_mem x k ys, List.mem_cons]
        constructor
        · rintro (h | h | h) <;> simp [h]
        · rintro (h | h | h) <;> simp [h]
theorem insI_srt (x : Int) : ∀ ys : List Int, ys.Pairwise (· < ·) → (insI x ys).Pairwise (· < ·)
  | [], _ => by unfold insI; simp
  | y :: ys, h => by
    obtain ⟨h1, h2⟩ := List.pairwise_cons.mp h
    unfold insI
    split
    · rename_i lt
      refine List.pairwise_cons.mpr ⟨fun z hz => ?_, h⟩
      rcases List.mem_cons.mp hz with rfl | hz
      · exact lt
      · have := h1 z hz; omega
    · split
      · exact h
      · refine List.pairwise_cons.mpr ⟨fun z hz => ?_, insI_srt x ys h2⟩
        rcases (insI_mem x z ys).mp hz with rfl | hz
        · omega
        · exact h1 z hz
theorem ssetI_mem (k : Int) : ∀ ns : List Int, k ∈ ssetI ns ↔ k ∈ ns
  | [] => Iff.rfl
  | n :: ns => by
    show k ∈ insI n (ssetI ns) ↔ _
    rw [insI_mem, ssetI_mem k ns, List.mem_cons]
theorem ssetI_srt : ∀ ns : List Int, (ssetI ns).Pairwise (· < ·)
  | [] => List.Pairwise.nil
  | n :: ns => insI_srt n _ (ssetI_srt ns)
theorem srt_ext : ∀ (a b : List Int), a.Pairwise (· < ·) → b.Pairwise (· < ·) → (∀ k, k ∈ a ↔ k ∈ b) → a = b
  | [], [], _, _, _ => rfl
  | [], y :: b, _, _, h => absurd ((h y).mpr List.mem_cons_self) (by simp)
  | x :: a, [], _, _, h => absurd ((h x).mp List.mem_cons_self) (by simp)
  | x :: a, y :: b, ha, hb, h => by
    obtain ⟨a1, a2⟩ := List.pairwise_cons.mp ha
    obtain ⟨b1, b2⟩ := List.pairwise_cons.mp hb
    have e : x = y := by
      rcases List.mem_cons.mp ((h x).mp List.mem_cons_self) with e | e
      · exact e
      · rcases List.mem_cons.mp ((h y).mpr List.mem_cons_self) with e2 | e2
        · exact e2.symm
        · have := b1 x e; have := a1 y e2; omega
    subst e
    congr 1
    refine srt_ext a b a2 b2 fun k => ⟨fun hk => ?_, fun hk => ?_⟩
    · rcases List.mem_cons.mp ((h k).mp (List.mem_cons_of_mem _ hk)) with e | e
      · have := a1 k hk; omega
      · exact e
    · rcases List.mem_cons.mp ((h k).mpr (List.mem_cons_of_mem _ hk)) with e | e
      · have := b1 k hk; omega
      · exact e
def rSSet (K : PySem.W.Frag) (w : World) : List V → Hp → VK → Prop := fun xs H Q => rSetL K w xs H fun v H1 => rSortedSet w [v] H1 Q
variable [TabsW]
theorem s_sset {K : PySem.W.Frag} {w : World} : CaS K (rSSet K w) (bltD .sset) := by
  intro M xs H ps z Q r hM e k
  obtain ⟨d, x, rfl, rfl, rd⟩ := one_of r e rfl (fun a b c => by cases a <;> rfl)
  cases d <;> first | (cases e; done) | skip
  rename_i ds
  have e' : ((intsD ds).bind fun ns => if ns.length < 64 then some (D.lst ((ssetI ns).map .int)) else none) = some z := e
  cases h : intsD ds with
  | none => rw [h] at e'; cases e'
  | some ns =>
    rw [h] at e'
    have e' : (if ns.length < 64 then some (D.lst ((ssetI ns).map .int)) else none) = some z := e'
    by_cases hn : ns.length < 64
    · rw [if_pos hn] at e'; cases e'
      have := intsD_of h
      subst this
      obtain ⟨a, ys, rfl, hr, rr⟩ := rd
      have := rr.ints
      subst this
      refine ⟨a, ns, rfl, hr, by omega, fun b c hb hc => ⟨b, _, c, rfl, upd_same, by omega, fun ns' p hs hm hl hp => ?_⟩⟩
      have e1 : ns' = ssetI ns := srt_ext ns' (ssetI ns) hs (ssetI_srt ns) fun k => by rw [hm, ssetI_mem, decide_eq_true_iff]
      subst e1
      have hp0 : H p = none := by
        by_cases hpb : p = b
        · subst hpb; exact hb
        · rw [upd_ne hpb] at hp; exact hp
      exact k _ _ ((Stp.new (M := NoA) hb).trans (Stp.new hp)) (rep_new hp (hM p hp0) (RepL.of_ints _))
    · rw [if_neg hn] at e'; cases e'
theorem b_sset {X : Cx} {G : Ctx} {W : WX} {a : Expr} {a' : IR} {p p2 q pos : Pos} (hc : X.calm = true) (hm : X.mg "sorted" = none) (hg : Gl X "sorted") (hm2 : X.mg "set" = none) (hg2 : Gl X "set") (ha : PE X a (tI G W X.K a')) (hs : starB a = false) :
    PE X (.Call (.Name "sorted" p) [.Call (.Name "set" p2) [a] [] q] [] pos) (tI G W X.K (.blt .sset [a'])) :=
  PE.by_ (pe_callB (cr_sortedSet hc) hg hm (by decide +kernel) (pa_cons (pe_callTy (cr_setL hc) hg2 hm2 (by decide +kernel) (ar_cons ha ar_nil hs) (by decide) (by decide) (star_cons hs) (star_none (es := []) rfl)) pa_nil) (by decide) (by decide)) fun σ H Q q => blt_read s_sset q
end Mp
set_option maxHeartbeats 4000000
set_option maxHeartbeats 4000000
namespace Mp
open PySem L2
variable [TabsW] [GdW]
section
variable {K : PySem.W.Frag} {H0 H H' H1 : Hp} {M0 A : AS} {e1 : Env} {σ : L2.St} {own : List Nat} {Dl : Addr}
/-- the state while such a loop goes: what is made so far stands at Dl -/
structure LA (K : PySem.W.Frag) (H0 H1 : Hp) (M0 A : AS) (e1 : Env) (σ : L2.St) (own : List Nat) (Dl : Addr) (n : Nat) (env : Env) (τ : L2.St) (acc : List D) (H : Hp) : Prop where
  ex : ∃ ys : List V, H Dl = some (.lst ys) ∧ ys.length ≤ n ∧ RepL K H (MM (fun a => M0 a ∨ a = Dl) env τ) acc ys
  E : EnvR K H0 (fun a => M0 a ∨ a = Dl) A env τ H
  st : Stp (WW A e1 σ) H1 H
  mu : ∀ a, MutAt env τ a → MutAt e1 σ a
  th : ∀ (j : Nat) (c : Cell), j ∉ own → e1[j]? = some (some c) → ∃ c', env[j]? = some (some c')
  io : ∀ (j : Nat) (ds : List D), j ∉ own → env[j]? = some (some (Cell.io ds)) → ∃ es, e1[j]? = some (some (Cell.io es))
  len : env.length = e1.length
  nA : ¬ A Dl
  n0 : ¬ Lv H0 Dl
  nD : H1 Dl = none
theorem LA.nW {n : Nat} {env : Env} {τ : L2.St} {acc : List D} (L : LA K H0 H1 M0 A e1 σ own Dl n env τ acc H) : ¬ WW A env τ Dl := fun z => by
  rcases z with z | ⟨j, es, z1, z2⟩
  · exact L.nA z
  · obtain ⟨b, zs, b1, _, _, b4, _⟩ := L.E.own j es z1
    rw [z2] at b1; cases b1
    exact b4 (.inr rfl)
/-- something has been reckoned -/
theorem LA.step {n : Nat} {env env' : Env} {τ : L2.St} {acc : List D} (L : LA K H0 H1 M0 A e1 σ own Dl n env τ acc H) (s : Stp (WW A env τ) H H') (u : Sub τ env env') (E' : EnvR K H0 (fun a => M0 a ∨ a = Dl) A env' τ H') : LA K H0 H1 M0 A e1 σ own Dl n env' τ acc H' := by
  obtain ⟨ys, h1, h2, h3⟩ := L.ex
  refine ⟨⟨ys, s.st Dl _ h1 L.nW nt_lst, h2, holdL h3 L.E.aM s u⟩, E', L.st.trans (s.weak fun a z => z.elim .inl fun q => .inr (L.mu a q)), fun a z => L.mu a (u.own a z), fun j c hj h => ?_, fun j ds hj h => ?_, by rw [u.len, L.len], L.nA, L.n0, L.nD⟩
  · obtain ⟨c1, q⟩ := L.th j c hj h
    exact u.there j c1 q
  · obtain ⟨es, q⟩ := u.io j ds h
    exact L.io j es hj q
/-- more turns may go -/
theorem LA.more {n m : Nat} {env : Env} {τ : L2.St} {acc : List D} (L : LA K H0 H1 M0 A e1 σ own Dl n env τ acc H) (h : n ≤ m) : LA K H0 H1 M0 A e1 σ own Dl m env τ acc H := by
  obtain ⟨ys, h1, h2, h3⟩ := L.ex
  exact ⟨⟨ys, h1, Nat.le_trans h2 h, h3⟩, L.E, L.st, L.mu, L.th, L.io, L.len, L.nA, L.n0, L.nD⟩
/-- slots of its own are hidden -/
theorem LA.wipe {n : Nat} {env : Env} {τ : L2.St} {acc : List D} (L : LA K H0 H1 M0 A e1 σ own Dl n env τ acc H) (is : List Nat) (hi : ∀ j, j ∈ is → j ∈ own) : LA K H0 H1 M0 A e1 σ own Dl n (wipeE env is) (L2.wipe τ is) acc H := by
  obtain ⟨ys, h1, h2, h3⟩ := L.ex
  obtain ⟨E2, m2⟩ := L.E.wipe is
  refine ⟨⟨ys, h1, h2, RepL.stp Stp.refl (fun a z => z.elim .inl fun q => .inr (m2 a q)) acc ys h3⟩, E2, L.st, fun a z => L.mu a (m2 a z), fun j c hj h => ?_, fun j ds hj h => ?_, by rw [wipeE_len, L.len], L.nA, L.n0, L.nD⟩
  · rw [wipeE_out fun z => hj (hi j z)]; exact L.th j c hj h
  · rw [wipeE_out fun z => hj (hi j z)] at h; exact L.io j ds hj h
/-- a target is set -/
theorem LA.bind {n : Nat} {env env1 : Env} {τ τ' : L2.St} {acc : List D} {tg : Tgt} {d : D} (L : LA K H0 H1 M0 A e1 σ own Dl n env τ acc H) (hb : bindT tg d env = some env1) (ho : ∀ j, j ∈ tgOwn tg → j ∈ own)
    (E' : EnvR K H0 (fun a => M0 a ∨ a = Dl) A env1 τ' H) (u' : ∀ a, MutAt env1 τ' a → MutAt env τ a) : LA K H0 H1 M0 A e1 σ own Dl n env1 τ' acc H := by
  obtain ⟨ys, h1, h2, h3⟩ := L.ex
  obtain ⟨b1, b2⟩ := bind_out hb
  refine ⟨⟨ys, h1, h2, RepL.stp Stp.refl (fun a z => z.elim .inl fun q => .inr (u' a q)) acc ys h3⟩, E', L.st, fun a z => L.mu a (u' a z), fun j c hj h => ?_, fun j ds hj h => ?_, by rw [b2, L.len], L.nA, L.n0, L.nD⟩
  · rw [b1 j fun z => hj (ho j z)]; exact L.th j c hj h
  · rw [b1 j fun z => hj (ho j z)] at h; exact L.io j ds hj h
/-- one more -/
theorem LA.push {n : Nat} {env : Env} {τ : L2.St} {acc : List D} {d : D} {y : V} (L : LA K H0 H1 M0 A e1 σ own Dl n env τ acc H) (r : Rep K H (MM (fun a => M0 a ∨ a = Dl) env τ) d y) :
    ∃ ys, H Dl = some (.lst ys) ∧ ys.length ≤ n ∧ LA K H0 H1 M0 A e1 σ own Dl (n + 1) env τ (acc ++ [d]) (upd H Dl (.lst (ys ++ [y]))) := by
  obtain ⟨ys, h1, h2, h3⟩ := L.ex
  have st : Stp (MM (fun a => M0 a ∨ a = Dl) env τ) H (upd H Dl (.lst (ys ++ [y]))) := Stp.set (.inl (.inr rfl)) (pl_at h1)
  refine ⟨ys, h1, h2, ⟨⟨ys ++ [y], upd_same, by rw [List.length_append, List.length_singleton]; omega, RepL.append (RepL.stp st (fun _ z => z) acc ys h3) (RepL.cons (Rep.stp st (fun _ z => z) d y r) RepL.nil)⟩,
    L.E.setM (pl_at h1) (.inr rfl) L.nA L.n0, ⟨fun a o h k t => ?_, fun a h => mo_upd nt_lst a (L.st.mo a h), fun P q m h => tab_upd (pl_at h1) P q (L.st.tb P q m h)⟩, L.mu, L.th, L.io, L.len, L.nA, L.n0, L.nD⟩⟩
  rw [upd_ne (ne_of_none h L.nD)]
  exact L.st.st a o h k t
/-- what is walked, as the loop's state knows it -/
theorem LA.know {n : Nat} {env : Env} {τ : L2.St} {acc : List D} (L : LA K H0 H1 M0 A e1 σ own Dl n env τ acc H) {a : Addr} (z : MM (fun a => M0 a ∨ a = Dl) env τ a) : (MM M0 e1 σ a ∨ ¬ Lv H1 a) ∧ Lv H a := by
  refine ⟨?_, ?_⟩
  · rcases z with (z | z) | z
    · exact .inl (.inl z)
    · exact .inr (by rw [z]; exact nn_of L.nD)
    · exact .inl (.inr (L.mu a z))
  · rcases z with z | ⟨j, es, z1, z2⟩
    · exact L.E.m0 a z
    · obtain ⟨b, zs, b1, b2, _⟩ := L.E.own j es z1
      rw [z2] at b1; cases b1
      exact Lv.lst b2
theorem wipeE_eq {is : List Nat} {a b : Env} (hl : a.length = b.length) (h : ∀ j, j ∉ is → a[j]? = b[j]?) : wipeE a is = wipeE b is := by
  refine List.ext_getElem? fun j => ?_
  by_cases hj : j ∈ is
  · have g : ∀ e : Env, (wipeE e is)[j]? = if j < e.length then some none else none := fun e => by
      by_cases hlt : j < e.length
      · rw [if_pos hlt]
        have hlt' : j < (wipeE e is).length := by rw [wipeE_len]; exact hlt
        rw [List.getElem?_eq_getElem hlt']
        cases q : (wipeE e is)[j] with
        | none => rfl
        | some c => exact absurd hj (wipeE_get (env := e) (is := is) (j := j) (c := c) (by rw [List.getElem?_eq_getElem hlt', q])).1
      · rw [if_neg hlt]
        exact List.getElem?_eq_none (by rw [wipeE_len]; omega)
    rw [g a, g b, hl]
  · rw [wipeE_out hj, wipeE_out hj]
    exact h j hj
theorem wipe_wipe {is own : List Nat} (h : ∀ j, j ∈ is → j ∈ own) (env : Env) (τ : L2.St) : wipeE (wipeE env is) own = wipeE env own ∧ L2.wipe (L2.wipe τ is) own = L2.wipe τ own :=
  ⟨wipeE_eq (wipeE_len is) fun j hj => wipeE_out fun z => hj (h j z), wipe_eq (wipe_length τ is).symm fun j hj => wipe_out fun z => hj (h j z)⟩
end
section
variable {X : Cx} {G : Ctx} {W : WX}
theorem lc2_run {own own1 : List Nat} {tg tg1 : Tgt} {src : Env → R (List D)} {T : Option (Env → R Bool)} {ee : Env → R D} {d : D} {ds : List D} {env : Env} {xs : List D} {e2 : Env} (h : lc2Loop own tg src own1 tg1 T ee (d :: ds) env = .ok xs e2) :
    ∃ env1 ds1 env2 xs1 env3 ys, bindT tg d (wipeE env own) = some env1 ∧ src env1 = .ok ds1 env2 ∧ ds1.length ≤ 1000 ∧ lcLoop own1 tg1 T ee ds1 env2 = .ok xs1 env3 ∧ lc2Loop own tg src own1 tg1 T ee ds env3 = .ok ys e2 ∧ xs = xs1 ++ ys := by
  unfold lc2Loop at h
  cases hb : bindT tg d (wipeE env own) with
  | none => rw [hb] at h; cases h
  | some env1 =>
    rw [hb] at h
    dsimp only at h
    cases hs : src env1 with
    | bad => rw [hs] at h; cases h
    | exc C f d e => rw [hs] at h; cases h
    | ok ds1 env2 =>
      rw [hs] at h
      have h : (if ds1.length ≤ 1000 then (lcLoop own1 tg1 T ee ds1 env2).bind fun xs env3 => (lc2Loop own tg src own1 tg1 T ee ds env3).bind fun ys env4 => R.ok (xs ++ ys) env4 else .bad) = .ok xs e2 := h
      by_cases hl : ds1.length ≤ 1000
      · rw [if_pos hl] at h
        cases h1 : lcLoop own1 tg1 T ee ds1 env2 with
        | bad => rw [h1] at h; cases h
        | exc C f d e => rw [h1] at h; cases h
        | ok xs1 env3 =>
          rw [h1] at h
          have h : ((lc2Loop own tg src own1 tg1 T ee ds env3).bind fun ys env4 => R.ok (xs1 ++ ys) env4) = .ok xs e2 := h
          cases h2 : lc2Loop own tg src own1 tg1 T ee ds env3 with
          | bad => rw [h2] at h; cases h
          | exc C f d e => rw [h2] at h; cases h
          | ok ys e4 => rw [h2] at h; cases h; exact ⟨env1, ds1, env2, xs1, env3, ys, rfl, hs, hl, h1, h2, rfl⟩
      · rw [if_neg hl] at h; cases h
/-- between two turns of the first for -/
def Lc2P (G : Ctx) (K : PySem.W.Frag) (H0 H1 : Hp) (M0 A : AS) (e1 : Env) (σ : L2.St) (own own1 : List Nat) (tg tg1 : Tgt) (it1 : IT) (t : Option IR) (e : IR) (Dl : Addr) (ds xs : List D) (e2 : Env) (i : Nat) (H : Hp) : Prop :=
  ∃ (env : Env) (acc rest : List D), LA K H0 H1 M0 A e1 σ own Dl (i * 1000) (wipeE env own) (L2.wipe σ own) acc H ∧ xs = acc ++ rest ∧ lc2Loop own tg (fun x => evi G it1 x) own1 tg1 (tsF G t) (fun x => (ev G e x).take) (ds.drop i) env = .ok rest e2
/-- between two turns of the second one -/
def Lc2Q (G : Ctx) (K : PySem.W.Frag) (H0 H1 : Hp) (M0 A : AS) (e1 : Env) (σ : L2.St) (own own1 : List Nat) (tg tg1 : Tgt) (it1 : IT) (t : Option IR) (e : IR) (Dl : Addr) (ds xs : List D) (e2 : Env) (i : Nat) (env2 : Env) (σ2 : L2.St) (H4 : Hp) (ds1 : List D) (j : Nat) (H : Hp) : Prop :=
  ∃ (env : Env) (acc xs1 : List D) (env3 : Env) (ys : List D), LA K H0 H1 M0 A e1 σ own Dl (i * 1000 + j) (wipeE env own1) (L2.wipe σ2 own1) acc H ∧ Stp (MM (fun a => M0 a ∨ a = Dl) env2 σ2) H4 H ∧ (∀ a, MutAt (wipeE env own1) (L2.wipe σ2 own1) a → MutAt env2 σ2 a) ∧ xs = acc ++ (xs1 ++ ys) ∧ lcLoop own1 tg1 (tsF G t) (fun x => (ev G e x).take) (ds1.drop j) env = .ok xs1 env3 ∧
    lc2Loop own tg (fun x => evi G it1 x) own1 tg1 (tsF G t) (fun x => (ev G e x).take) (ds.drop (i + 1)) env3 = .ok ys e2
theorem lc2_reads {K : PySem.W.Frag} {H0 H1 : Hp} {M0 A : AS} {e1 : Env} {σ : L2.St} {own own1 : List Nat} {tg tg1 : Tgt} {it1 : IT} {t : Option IR} {e : IR} {ds xs : List D} {e2 : Env} {Q : VK} {J : L2.It} {Dl : Addr} (E1 : EnvR K H0 M0 A e1 σ H1) (hown : ∀ j, j ∈ tgOwn tg → j ∈ own) (hown1 : ∀ j, j ∈ tgOwn tg1 → j ∈ own1) (hsub : ∀ j, j ∈ own1 → j ∈ own) (hide : own.all (hideB e1) = true)
    (gJ : Goes K (MM M0 e1 σ) (WW A e1 σ) H1 J ds) (hD : H1 Dl = none) (hlen : ds.length ≤ 1000) (hrun : lc2Loop own tg (fun x => evi G it1 x) own1 tg1 (tsF G t) (fun x => (ev G e x).take) ds e1 = .ok xs e2)
    (fin : ∀ H', Stp (WW A e1 σ) H1 H' → Sub σ e1 (backE e1 e2 own) → EnvR K H0 M0 A (backE e1 e2 own) σ H' → Rep K H' (MM M0 (backE e1 e2 own) σ) (.lst xs) (.ref Dl) → Q (.ref Dl) H') :
    ∃ Wd : Nat → Nat → Hp → Prop, (∃ m, Wd 0 m (upd H1 Dl (.lst []))) ∧ ∀ i m H, Wd i m H →
      (J.stop i H ∧ Q (.ref Dl) H) ∨ (J.go i H ∧ ∃ Nx : Hp → Prop, (∀ H', Nx H' → ∃ m', m' < m ∧ Wd (i + 1) m' H') ∧ ∀ x H', J.yld i H x H' → gT K tg x (L2.wipe σ own) H' fun σ2 H2 => L2.wipe σ2 own = L2.wipe σ own ∧ tYes σ2 H2 fun b H3 =>
        if b = true then tIi G wNo K it1 σ2 H3 fun J1 H4 => ∃ W1 : Nat → Nat → Hp → Prop, (∃ m, W1 0 m H4) ∧ ∀ j k H, W1 j k H →
          (J1.stop j H ∧ Nx H) ∨ (J1.go j H ∧ ∃ Nx1 : Hp → Prop, (∀ H', Nx1 H' → ∃ k', k' < k ∧ W1 (j + 1) k' H') ∧ ∀ x H', J1.yld j H x H' → gT K tg1 x (L2.wipe σ2 own1) H' fun σ3 H5 => L2.wipe σ3 own1 = L2.wipe σ2 own1 ∧ tIf' G wNo K t σ3 H5 fun b H6 =>
            if b = true then tI G wNo K e σ3 H6 fun y H7 => ∃ acc, H7 Dl = some (.lst acc) ∧ acc.length < sizeLine ∧ Nx1 (upd H7 Dl (.lst (acc ++ [y]))) else Nx1 H6)
        else Nx H3) := by
  obtain ⟨Gd, Y, wk, hGd, hY⟩ := gJ
  have hs : sizeLine = 16777216 := sizeLine_eq
  have fr := E1.fresh hD
  have nA : ¬ A Dl := fun z => (E1.m0 Dl (E1.aM Dl z)).ne hD
  have start : Lc2P G K H0 H1 M0 A e1 σ own own1 tg tg1 it1 t e Dl ds xs e2 0 (upd H1 Dl (.lst [])) :=
    ⟨e1, [], xs, ⟨⟨[], upd_same, Nat.zero_le _, RepL.nil⟩, ((E1.wipe own).1).apart hD, Stp.new hD, (E1.wipe own).2, fun j c hj h => ⟨c, by rw [wipeE_out hj]; exact h⟩, fun j ds hj h => ⟨ds, by rw [wipeE_out hj] at h; exact h⟩, wipeE_len own, nA, fr.2, hD⟩, rfl, hrun⟩
  refine ⟨fun i m H => m = ds.length - i ∧ i ≤ ds.length ∧ Lc2P G K H0 H1 M0 A e1 σ own own1 tg tg1 it1 t e Dl ds xs e2 i H, ⟨ds.length, by simp, Nat.zero_le _, start⟩, ?_⟩
  rintro i m H ⟨rfl, hi, env, acc, rest, L, ex, run⟩
  have q := hGd H L.st
  by_cases hlt : i < ds.length
  · refine .inr ⟨wk.goes i H hlt q, Lc2P G K H0 H1 M0 A e1 σ own own1 tg tg1 it1 t e Dl ds xs e2 (i + 1), fun H' p' => ⟨ds.length - (i + 1), by omega, rfl, hlt, p'⟩, fun x H' y => ?_⟩
    obtain ⟨st, d, hd, rd⟩ := hY i H x H' _ hlt L.st (fun a z => L.know z) (wk.yields i H x H' hlt q y)
    have hdrop : ds.drop i = d :: ds.drop (i + 1) := by
      rw [List.drop_eq_getElem_cons hlt]
      congr 1
      have := List.getElem?_eq_getElem hlt
      rw [hd] at this; exact (Option.some.inj this).symm
    rw [hdrop] at run
    obtain ⟨env1, ds1, env2, xs1, env3, ys, hb, hsrc, hl1, hr1, hr2, hxs⟩ := lc2_run run
    have L1 := L.step st.no Sub.refl (L.E.keep st)
    refine tgt_read L1.E hb rd fun σ2 E2 u2 l2 o2 => ?_
    have hw : L2.wipe σ2 own = L2.wipe σ own := by
      have : L2.wipe σ2 own = L2.wipe (L2.wipe σ own) own := wipe_eq l2.symm fun j hj => o2 j fun z => hj (hown j z)
      rw [this]
      exact (wipe_wipe (fun _ z => z) env σ).2
    refine ⟨hw, ?_⟩
    have L2' := L1.bind hb hown E2 u2
    unfold tYes
    dsimp only
    rw [if_pos rfl]
    refine ⟨H0, _, A, env1, E2, ?_⟩
    rw [show evi G it1 env1 = .ok ds1 env2 from hsrc]
    intro H4 s4 u4 E4 J1 gJ1
    have L4 := L2'.step s4 u4 E4
    obtain ⟨Gd1, Y1, wk1, hGd1, hY1⟩ := gJ1
    -- the second for
    refine ⟨fun j k H => k = ds1.length - j ∧ j ≤ ds1.length ∧ Lc2Q G K H0 H1 M0 A e1 σ own own1 tg tg1 it1 t e Dl ds xs e2 i env2 σ2 H4 ds1 j H, ⟨ds1.length, by simp, Nat.zero_le _, env2, acc, xs1, env3, ys, (L4.wipe own1 hsub).more (by omega), Stp.refl, (E4.wipe own1).2, by rw [ex, hxs], hr1, hr2⟩, ?_⟩
    rintro j k H ⟨rfl, hj, env', acc', xs', env3', ys', L', s', m', ex', r1', r2'⟩
    have q1 := hGd1 H s'
    by_cases hlt1 : j < ds1.length
    · refine .inr ⟨wk1.goes j H hlt1 q1, Lc2Q G K H0 H1 M0 A e1 σ own own1 tg tg1 it1 t e Dl ds xs e2 i env2 σ2 H4 ds1 (j + 1), fun H' p' => ⟨ds1.length - (j + 1), by omega, rfl, hlt1, p'⟩, fun x H' y => ?_⟩
      obtain ⟨st1, d1, hd1, rd1⟩ := hY1 j H x H' (MM (fun a => M0 a ∨ a = Dl) (wipeE env' own1) (L2.wipe σ2 own1)) hlt1 s' (fun a z => ⟨.inl (z.elim .inl fun q => .inr (m' a q)), (L'.know z).2⟩) (wk1.yields j H x H' hlt1 q1 y)
      have hdrop1 : ds1.drop j = d1 :: ds1.drop (j + 1) := by
        rw [List.drop_eq_getElem_cons hlt1]
        congr 1
        have := List.getElem?_eq_getElem hlt1
        rw [hd1] at this; exact (Option.some.inj this).symm
      rw [hdrop1] at r1'
      obtain ⟨env1', b, env2', hb', ht', hr'⟩ := lc_run r1'
      have L1' := L'.step st1.no Sub.refl (L'.E.keep st1)
      refine tgt_read L1'.E hb' rd1 fun σ3 E3 u3 l3 o3 => ?_
      have hw' : L2.wipe σ3 own1 = L2.wipe σ2 own1 := by
        have : L2.wipe σ3 own1 = L2.wipe (L2.wipe σ2 own1) own1 := wipe_eq l3.symm fun j hj => o3 j fun z => hj (hown1 j z)
        rw [this]
        exact (wipe_wipe (fun _ z => z) env σ2).2
      refine ⟨hw', ?_⟩
      have L3 := L1'.bind hb' (fun j z => hsub j (hown1 j z)) E3 u3
      have s3 : Stp (MM (fun a => M0 a ∨ a = Dl) env2 σ2) H4 H' := s'.trans st1.no
      have m3 : ∀ a, MutAt env1' σ3 a → MutAt env2 σ2 a := fun a z => m' a (u3 a z)
      have wM : ∀ {ex : Env}, (∀ a, MutAt ex σ3 a → MutAt env2 σ2 a) → ∀ a, WW A ex σ3 a → MM (fun a => M0 a ∨ a = Dl) env2 σ2 a := fun {ex} hx a z => z.elim (fun q => .inl (.inl (E1.aM a q))) fun q => .inr (hx a q)
      have cont : ∀ H6, LA K H0 H1 M0 A e1 σ own Dl (i * 1000 + j) env2' σ3 acc' H6 → Stp (MM (fun a => M0 a ∨ a = Dl) env2 σ2) H4 H6 → (∀ a, MutAt env2' σ3 a → MutAt env2 σ2 a) →
          if b = true then tI G wNo K e σ3 H6 (fun y H7 => ∃ acc, H7 Dl = some (.lst acc) ∧ acc.length < sizeLine ∧ Lc2Q G K H0 H1 M0 A e1 σ own own1 tg tg1 it1 t e Dl ds xs e2 i env2 σ2 H4 ds1 (j + 1) (upd H7 Dl (.lst (acc ++ [y]))))
          else Lc2Q G K H0 H1 M0 A e1 σ own own1 tg tg1 it1 t e Dl ds xs e2 i env2 σ2 H4 ds1 (j + 1) H6 := fun H6 L6 s6 m6 => by
        rcases hr' with ⟨rfl, x0, envx, ysx, he, hrun', hxs'⟩ | ⟨rfl, hrun'⟩
        · rw [if_pos rfl]
          refine take_read (f := fun d e => .ok d e) (P := fun d e _ => d = x0 ∧ e = envx) L6.E (by rw [he]; exact fun _ _ _ _ => ⟨rfl, rfl⟩) fun d' v e' H7 E7 rd7 s7 u7 h7 => ?_
          obtain ⟨rfl, rfl⟩ := h7 H7 Stp.refl Sub.refl E7
          have L7 := L6.step s7 u7 E7
          obtain ⟨zs, z1, z2, L8⟩ := L7.push rd7
          refine ⟨zs, z1, by omega, ?_⟩
          have L9 := L8.wipe own1 hsub
          rw [hw'] at L9
          have mw := (E7.wipe own1).2
          rw [hw'] at mw
          refine ⟨e', acc' ++ [d'], ysx, env3', ys', L9, (s6.trans (s7.weak (wM m6))).trans (Stp.set (.inl (.inr rfl)) (pl_at z1)), fun a z => m6 a (u7.own a (mw a z)), ?_, hrun', r2'⟩
          rw [ex', hxs']
          simp
        · rw [if_neg Bool.false_ne_true]
          have L9 := (L6.wipe own1 hsub).more (m := i * 1000 + (j + 1)) (by omega)
          rw [hw'] at L9
          have mw := (L6.E.wipe own1).2
          rw [hw'] at mw
          exact ⟨env2', acc', xs', env3', ys', L9, s6, fun a z => m6 a (mw a z), ex', hrun', r2'⟩
      rcases ht' with ⟨z1, rfl, rfl⟩ | ⟨t0, z1, z2⟩
      · have tn : t = none := by cases t with
          | none => rfl
          | some _ => cases z1
        subst tn
        exact cont H' L3 s3 m3
      · cases t with
        | none => cases z1
        | some t' =>
          cases z1
          exact ⟨H0, _, A, env1', E3, by (have z3 : truR (ev G t' env1') = .ok b env2' := z2); rw [z3]; exact fun H6 s6 u6 E6 => cont H6 (L3.step s6 u6 E6) (s3.trans (s6.weak (wM m3))) fun a z => m3 a (u6.own a z)⟩
    · have e' : j = ds1.length := by omega
      subst e'
      refine .inl ⟨wk1.stops H q1, ?_⟩
      rw [List.drop_length] at r1'
      unfold lcLoop at r1'
      cases r1'
      have Lw := (L'.wipe own (fun _ z => z)).more (m := (i + 1) * 1000) (by omega)
      rw [(wipe_wipe hsub env' σ2).1, (wipe_wipe hsub env' σ2).2, hw] at Lw
      exact ⟨env', acc', ys', Lw, by rw [ex']; simp, r2'⟩
  · have e' : i = ds.length := by omega
    subst e'
    refine .inl ⟨wk.stops H q, ?_⟩
    rw [List.drop_length] at run
    unfold lc2Loop at run
    cases run
    obtain ⟨ys, hH, hyl, rI⟩ := L.ex
    have hD' : ∀ j, j ∈ own → e1[j]? = some none ∨ ∃ d, e1[j]? = some (some (.dat d)) := fun j hj => by
      have h := (List.all_eq_true.mp hide) j hj
      unfold hideB at h
      cases q : e1[j]? with
      | none => rw [q] at h; cases h
      | some o =>
        rw [q] at h
        cases o with
        | none => exact .inl rfl
        | some c =>
          cases c with
          | dat d => exact .inr ⟨d, rfl⟩
          | _ => cases h
    have el : e2.length = e1.length := by rw [← L.len, wipeE_len]
    have mB : ∀ a, MutAt (backE e1 e2 own) σ a → MutAt (wipeE e2 own) (L2.wipe σ own) a := fun a ⟨j, es, z1, z2⟩ => by
      rcases backE_get z1 with ⟨b1, b2⟩ | ⟨b1, b2⟩
      · exact ⟨j, es, by rw [wipeE_out b1]; exact b2, by rw [wipe_out b1]; exact z2⟩
      · rcases hD' j b1 with c1 | ⟨d, c1⟩ <;> (rw [c1] at b2; cases b2)
    obtain ⟨E2, _⟩ := L.E.re (env' := backE e1 e2 own) (σ' := σ) (by rw [backE_len, el]; exact E1.len) fun j c h => by
      rcases backE_get h with ⟨b1, b2⟩ | ⟨b1, b2⟩
      · exact .inl ⟨by rw [wipeE_out b1]; exact b2, (wipe_out b1).symm⟩
      · rcases hD' j b1 with c1 | ⟨d, c1⟩
        · rw [c1] at b2; cases b2
        · rw [c1] at b2; cases b2
          obtain ⟨v, v1, v2⟩ := E1.dat j d c1
          refine .inr ⟨d, v, rfl, v1, ?_⟩
          have g : Rep K H1 (fun a => MM M0 e1 σ a ∨ a = Dl) d v := Rep.grow (fun a z => z.elim .inl fun q => .inr (by rw [q]; exact nn_of hD)) d v v2
          refine Rep.stp (L.st.weak fun a z => .inl (WW.sub E1.aM a z)) (fun a z => ?_) d v g
          rcases z with (z | z) | z
          · exact .inl (.inl z)
          · exact .inr z
          · exact .inl (.inr (L.mu a z))
    have E3 := E2.less (M1 := M0) (fun a z => .inl z) E1.aM
    refine fin H L.st ⟨fun a z => L.mu a (mB a z), fun j c h => ?_, fun j es h => ?_, by rw [backE_len, el]⟩ E3 ?_
    · by_cases hj : j ∈ own
      · exact ⟨c, backE_in hj (by rw [el]; exact (List.getElem?_eq_some_iff.mp h).1) h⟩
      · obtain ⟨c', h'⟩ := L.th j c hj h
        exact ⟨c', by rw [backE_out hj]; rw [wipeE_out hj] at h'; exact h'⟩
    · rcases backE_get h with ⟨b1, b2⟩ | ⟨b1, b2⟩
      · exact L.io j es b1 (by rw [wipeE_out b1]; exact b2)
      · exact ⟨es, b2⟩
    · unfold Rep
      refine ⟨Dl, ys, rfl, .inl ⟨fun z => ?_, Rd.of hH⟩, ?_⟩
      · rcases z with z | ⟨j, es, z1, z2⟩
        · exact (E1.m0 Dl z).ne hD
        · obtain ⟨b, zs, b1, _, _, b4, _⟩ := E2.own j es z1
          rw [z2] at b1; cases b1
          exact b4 (.inr rfl)
      · rw [ex, List.append_nil]
        refine RepL.stp Stp.refl (fun a z => ?_) acc ys rI
        rcases z with z | z
        · exact .inl (.inl z)
        · exact .inr (mB a z)
theorem ev_lc2 {tg tg1 : Tgt} {it it1 : IT} {t : Option IR} {e : IR} {own own1 : List Nat} {env : Env} : ev G (.lc2 tg it tg1 it1 t e own own1) env = (noExc (evi G it env)).bind fun ds e1 => if ds.length ≤ 1000 ∧ own.all (hideB e1) = true ∧ (tgOwn tg).all (fun i => own.contains i) = true ∧ (tgOwn tg1).all (fun i => own1.contains i) = true ∧ own1.all (fun i => own.contains i) = true then
        (noExc (lc2Loop own tg (fun x => evi G it1 x) own1 tg1 (tsF G t) (fun x => (ev G e x).take) ds e1)).bind fun xs e2 => .ok (.val (.lst xs)) (backE e1 e2 own) else .bad := by
  cases t <;> (rw [ev.eq_def]; rfl)
theorem lc2_imp {K : PySem.W.Frag} {tg tg1 : Tgt} {it it1 : IT} {t : Option IR} {e : IR} {own own1 : List Nat} {σ : L2.St} {H : Hp} {Q : VK} (q : tI G W K (.lc2 tg it tg1 it1 t e own own1) σ H Q) : tLc2 (tIi G W K it) (gT K tg) tYes (tIi G wNo K it1) (gT K tg1) (tIf' G wNo K t) (tI G wNo K e) own own1 σ H Q := by
  obtain ⟨H0, M0, A, env, E, q⟩ := q
  rw [ev_lc2] at q
  refine ⟨H0, M0, A, env, E, (Sat.noExc (W' := W) (Sat.bind q)).mono fun ds e1 H1 _ s1 u1 E1 h1 J gJ D hD => ?_⟩
  by_cases hcn : ds.length ≤ 1000 ∧ own.all (hideB e1) = true ∧ (tgOwn tg).all (fun i => own.contains i) = true ∧ (tgOwn tg1).all (fun i => own1.contains i) = true ∧ own1.all (fun i => own.contains i) = true
  · rw [if_pos hcn] at h1
    cases hr : lc2Loop own tg (fun x => evi G it1 x) own1 tg1 (tsF G t) (fun x => (ev G e x).take) ds e1 with
    | bad => rw [hr] at h1; exact h1.elim
    | exc C f d e2 => rw [hr] at h1; exact h1.elim
    | ok xs e2 =>
      rw [hr] at h1
      exact lc2_reads E1 (fun j hj => by simpa using (List.all_eq_true.mp hcn.2.2.1) j hj) (fun j hj => by simpa using (List.all_eq_true.mp hcn.2.2.2.1) j hj) (fun j hj => by simpa using (List.all_eq_true.mp hcn.2.2.2.2) j hj) hcn.2.1 (gJ.weak (WW.sub E1.aM)) hD hcn.1 hr fun H' st sb E' r => h1 H' st sb E' _ r
  · rw [if_neg hcn] at h1; exact h1.elim
theorem e_lc2 {elt tgE iter tgE1 iter1 : Expr} {ifs1 : List Expr} {scope : Scope} {own : List (Str × Nat)} {own1 : List Nat} {pos : Pos} {tg tg1 : Tgt} {it it1 : IT} {t : Option IR} {e : IR} (hc : X.calm = true) (hN : X.N.Nodup) (hi : PI X tgE iter (tIi G W X.K it)) (ok : BlkOk X.N X.env.scope scope own) (hv : ∀ i ∈ own1, i ∈ own.map (·.2))
    (hg : ∀ (s : Shared) (H : Hp) (C : Addr) (cl : List (Str × Addr)) (fp : List Addr), PG (X.blk s H scope (compEnvC scope cl C X.env) fp) tgE (gT X.K tg))
    (hi1 : ∀ (s : Shared) (H : Hp) (C : Addr) (cl : List (Str × Addr)) (fp : List Addr), PI (X.blk s H scope (compEnvC scope cl C X.env) fp) tgE1 iter1 (tIi G wNo X.K it1))
    (hg1 : ∀ (s : Shared) (H : Hp) (C : Addr) (cl : List (Str × Addr)) (fp : List Addr), PG (X.blk s H scope (compEnvC scope cl C X.env) fp) tgE1 (gT X.K tg1)) (ht1 : ∀ (s : Shared) (H : Hp) (C : Addr) (cl : List (Str × Addr)) (fp : List Addr), PTs (X.blk s H scope (compEnvC scope cl C X.env) fp) ifs1 (tIf' G wNo X.K t))
    (he : ∀ (s : Shared) (H : Hp) (C : Addr) (cl : List (Str × Addr)) (fp : List Addr), PE (X.blk s H scope (compEnvC scope cl C X.env) fp) elt (tI G wNo X.K e)) (hs : ∀ x, foldedSetIterable iter X.env x = pure x) (hs1 : ∀ env x, foldedSetIterable iter1 env x = pure x) :
    PE X (.ListComp elt [⟨tgE, iter, [], 0⟩, ⟨tgE1, iter1, ifs1, 0⟩] scope pos) (tI G W X.K (.lc2 tg it tg1 it1 t e (own.map (·.2)) own1)) := PE.by_ (pe_lc2 hc hN hi ok hv hg (fun _ _ _ _ _ => pts_nil) hi1 hg1 ht1 he hs hs1) fun σ H Q q => lc2_imp q
end
end Mp
set_option maxHeartbeats 4000000
namespace Mp
open PySem L2 PyProof.Rows
variable [TabsW] [GdW]
section
variable {X : Cx} {G : Ctx} {W : WX}
def tNil0 : TE := fun _ H Q => ∀ p, H p = none → Q (.ref p) (upd H p (.lst []))
theorem pe_nil0 {pos : Pos} : PE X (.List [] pos) tNil0 := PE.by_ (pe_lst pa_nil) fun σ H Q q => ⟨Nat.zero_le _, q⟩
end
end Mp
set_option maxHeartbeats 2000000
namespace Mp
open PySem L2
variable [TabsW] [GdW]
theorem back_wipe {own : List Nat} {env0 env' : Env} (h : wipeE env' own = wipeE env0 own) : backE env0 env' own = env0 := by
  have hl : env'.length = env0.length := by rw [← wipeE_len (env := env') own, h, wipeE_len]
  have hin : ∀ (is : List Nat) (j : Nat), j ∈ is → j < env0.length → (backE env0 env' is)[j]? = env0[j]? := by
    intro is
    induction is with
    | nil => intro j h _; cases h
    | cons i is ih =>
      intro j hj hlt
      show ((backE env0 env' is).set i ((env0[i]?).join))[j]? = _
      by_cases z : i = j
      · subst z
        rw [List.getElem?_set_self (by rw [backE_len, hl]; exact hlt), List.getElem?_eq_getElem hlt]; rfl
      · rw [List.getElem?_set_ne z]
        rcases List.mem_cons.mp hj with e | hj
        · exact absurd e.symm z
        · exact ih j hj hlt
  refine List.ext_getElem? fun j => ?_
  by_cases hj : j ∈ own
  · by_cases hlt : j < env0.length
    · exact hin own j hj hlt
    · have n1 : env0[j]? = none := List.getElem?_eq_none (by omega)
      have n2 : (backE env0 env' own)[j]? = none := List.getElem?_eq_none (by rw [backE_len, hl]; omega)
      rw [n1, n2]
  · rw [backE_out hj, ← wipeE_out (env := env') hj, h, wipeE_out hj]
/-- one turn's place: what is bound, tested, told -/
structure TurnOk {α : Type} (own : List Nat) (tg : Tgt) (T : Option (Env → R Bool)) (E : Env → R D) (base : Env) (f g : α → D) (p : α → Bool) (st : α → Env) (a : α) : Prop where
  bind : bindT tg (f a) base = some (st a)
  wipe : wipeE (st a) own = base
  test : tstR T (st a) = .ok (p a) (st a)
  tell : p a = true → E (st a) = .ok (g a) (st a)
theorem lcLoop_typ {α : Type} {own : List Nat} {tg : Tgt} {T : Option (Env → R Bool)} {E : Env → R D} {base : Env} {f g : α → D} {p : α → Bool} {st : α → Env} : ∀ (l : List α) (env : Env), wipeE env own = base → (∀ a, a ∈ l → TurnOk own tg T E base f g p st a) →
    ∃ env', lcLoop own tg T E (l.map f) env = .ok ((l.filter p).map g) env' ∧ wipeE env' own = base
  | [], env, h, _ => ⟨env, rfl, h⟩
  | a :: l, env, h, hs => by
    have t := hs a List.mem_cons_self
    have hb : bindT tg (f a) (wipeE env own) = some (st a) := by rw [h]; exact t.bind
    obtain ⟨env', e1, e2⟩ := lcLoop_typ l (st a) t.wipe fun a ha => hs a (List.mem_cons_of_mem _ ha)
    refine ⟨env', ?_, e2⟩
    rw [List.map_cons, lcLoop_cons hb, t.test]
    cases hp : p a with
    | false =>
      rw [List.filter_cons_of_neg (by rw [hp]; decide)]
      exact e1
    | true =>
      rw [List.filter_cons_of_pos hp, List.map_cons]
      show ((E (st a)).bind fun x env3 => (lcLoop own tg T E (l.map f) env3).bind fun xs env4 => R.ok (x :: xs) env4) = _
      rw [t.tell hp]
      show ((lcLoop own tg T E (l.map f) (st a)).bind fun xs env4 => R.ok (g a :: xs) env4) = _
      rw [e1]; rfl
variable {G : Ctx}
theorem lc2Loop_typ {β : Type} {own : List Nat} {tg : Tgt} {src : Env → R (List D)} {own1 : List Nat} {tg1 : Tgt} {T : Option (Env → R Bool)} {E : Env → R D} {base : Env} {F : β → D} {st : β → Env} {X : β → List D} : ∀ (l : List β) (env : Env), wipeE env own = base →
    (∀ b, b ∈ l → bindT tg (F b) base = some (st b) ∧ ∃ ds1, src (st b) = .ok ds1 (st b) ∧ ds1.length ≤ 1000 ∧ ∃ env', lcLoop own1 tg1 T E ds1 (st b) = .ok (X b) env' ∧ wipeE env' own = base) →
    ∃ env', lc2Loop own tg src own1 tg1 T E (l.map F) env = .ok (l.flatMap X) env' ∧ wipeE env' own = base
  | [], env, h, _ => ⟨env, rfl, h⟩
  | b :: l, env, h, hs => by
    obtain ⟨h1, ds1, h2, h3, e1, h4, h5⟩ := hs b List.mem_cons_self
    obtain ⟨env', g1, g2⟩ := lc2Loop_typ l e1 h5 fun b hb => hs b (List.mem_cons_of_mem _ hb)
    refine ⟨env', ?_, g2⟩
    rw [List.map_cons, lc2Loop, h, h1]
    show (src (st b)).bind _ = _
    rw [h2]
    show (if ds1.length ≤ 1000 then _ else _) = _
    rw [if_pos h3, h4]
    show (lc2Loop own tg src own1 tg1 T E (l.map F) e1).bind _ = _
    rw [g1]
    rfl
theorem ev_lc2_typ {β : Type} {own own1 : List Nat} {tg tg1 : Tgt} {it it1 : IT} {t : Option IR} {e : IR} {env env0 : Env} {l : List β} {F : β → D} {X : β → List D} (st : β → Env) (hit : evi G it env = .ok (l.map F) env0) (hl : l.length ≤ 1000) (hh : own.all (hideB env0) = true)
    (ho : (tgOwn tg).all (fun j => own.contains j) = true) (ho1 : (tgOwn tg1).all (fun j => own1.contains j) = true) (hs : own1.all (fun j => own.contains j) = true)
    (step : ∀ b, b ∈ l → bindT tg (F b) (wipeE env0 own) = some (st b) ∧ ∃ ds1, evi G it1 (st b) = .ok ds1 (st b) ∧ ds1.length ≤ 1000 ∧ ∃ env', lcLoop own1 tg1 (tsF G t) (fun x => (ev G e x).take) ds1 (st b) = .ok (X b) env' ∧ wipeE env' own = wipeE env0 own) :
    ev G (.lc2 tg it tg1 it1 t e own own1) env = .ok (.val (.lst (l.flatMap X))) env0 := by
  obtain ⟨env', e1, e2⟩ := lc2Loop_typ (own := own) (tg := tg) (src := fun x => evi G it1 x) (own1 := own1) (tg1 := tg1) (T := tsF G t) (E := fun x => (ev G e x).take) l env0 rfl step
  rw [ev_lc2, hit]
  show (if (l.map F).length ≤ 1000 ∧ own.all (hideB env0) = true ∧ (tgOwn tg).all (fun i => own.contains i) = true ∧ (tgOwn tg1).all (fun i => own1.contains i) = true ∧ own1.all (fun i => own.contains i) = true then _ else _) = _
  rw [if_pos ⟨by simpa using hl, hh, ho, ho1, hs⟩]
  rw [e1]
  show R.ok _ (backE env0 env' own) = _
  rw [back_wipe e2]
end Mp
set_option maxHeartbeats 4000000
namespace Mp
open PySem
open L2 PyProof.Rows
variable [TabsW] [GdW]
section
variable {X : Cx} {G : Ctx} {W : WX}
theorem e_lrng2 {a b : Expr} {i j : IR} {p1 p2 p3 p4 : Pos} (hc : X.calm = true) (hg : Gl X "list") (hm : X.mg "list" = none) (hg2 : Gl X "range") (hm2 : X.mg "range" = none) (ha : PE X a (tI G W X.K i)) (hb : PE X b (tI G W X.K j)) (hs : starB a = false) (hs2 : starB b = false) :
    PE X (.Call (.Name "list" p1) [.Call (.Name "range" p2) [a, b] [] p3] [] p4) (tI G W X.K (.lrng2 i j)) :=
  PE.by_ (pe_listRg hc hg hm (prg_2 hg2 hm2 ha hb (star_cons hs) (star_cons hs2) (by rw [star_cons hs2] <;> rfl)) (star_cons rfl)) fun σ H Q q => by
    obtain ⟨H0, M0, A, env, E, q⟩ := q
    rw [ev] at q
    refine rd_read E q fun d v e1 H1 E1 rd s1 u1 h1 => ?_
    refine rd_read E1 h1 fun c v' e2 H2 E2 rd2 s2 u2 h2 => ?_
    cases d with
    | int k =>
      cases c with
      | int l =>
        have h2 : Sat X.K H0 M0 A W (if -1000000 ≤ k ∧ k ≤ 1000000 ∧ -1000000 ≤ l ∧ l ≤ 1000000 ∧ l - k ≤ BIG then R.ok (.val (.lst (iotaD k (l - k).toNat))) e2 else .bad) e2 σ H2 (fun o e1 H1 => ∀ v, OpdR X.K M0 e1 σ H1 o v → Q v H1) := h2
        by_cases hj : -1000000 ≤ k ∧ k ≤ 1000000 ∧ -1000000 ≤ l ∧ l ≤ 1000000 ∧ l - k ≤ BIG
        · rw [if_pos hj] at h2
          have hB : (BIG : Int) = 100000 := rfl
          refine ⟨k, l, rd.int, rd2.int, ⟨by omega, by omega, by omega, by omega, by omega⟩, fun q hq => h2 _ (Stp.new hq) Sub.refl (E2.new hq) _ ?_⟩
          have e : rgV k l = (List.range (l - k).toNat).map fun i => V.int (k + (i : Nat)) := by unfold rgV; rfl
          exact rep_new hq (E2.fresh hq).1 (by rw [e]; exact iota_rep _ _)
        · rw [if_neg hj] at h2; exact h2.elim
      | _ => exact h2.elim
    | _ => cases c <;> exact h2.elim
theorem evq_lrng2 {a b : IR} {env : Env} : ev G (.lrng2 a b) env = ((ev G a env).rd.bind fun d e1 => (ev G b e1).rd.bind fun c e2 => match d, c with
    | .int i, .int j => if -1000000 ≤ i ∧ i ≤ 1000000 ∧ -1000000 ≤ j ∧ j ≤ 1000000 ∧ j - i ≤ BIG then .ok (.val (.lst (iotaD i (j - i).toNat))) e2 else .bad
    | _, _ => .bad) := by first | (rw [ev]; done) | (rw [ev]; rfl)
theorem st_setL {tgE e : Expr} {i : Nat} {ie e' : IR} {pos : Pos} (h : PS X (.Assign [tgE] e pos) (tAsg (tI G W X.K e') (gSub (tVar i) (tI G W X.K ie) L2.rSetL))) : PS X (.Assign [tgE] e pos) (tS G W X.K (.setL i ie e')) := PS.by_ h fun D σ H q => by
  obtain ⟨H0, M0, A, env, E, q⟩ := q
  rw [evS] at q
  refine take_readS E q fun d v e1 H1 E1 rd s1 u1 h1 => ?_
  by_cases ho : placeB e1 i = true
  · rw [if_pos ho] at h1
    obtain ⟨a, g1⟩ := place_at E1 ho
    refine ⟨_, g1, rd_readS E1 h1 fun k kv e2 H2 E2 rk s2 u2 h2 => ?_⟩
    have rd2 := hold rd E1.aM s2 u2
    cases k with
    | int k =>
      cases h3 : e2[i]? with
      | none => rw [h3] at h2; exact h2.elim
      | some c =>
        rw [h3] at h2
        cases c with
        | none => exact h2.elim
        | some c =>
          cases c with
          | own ds' =>
            dsimp only at h2
            cases hk : ixN ds'.length k with
            | none => rw [hk] at h2; exact h2.elim
            | some j =>
              rw [hk] at h2
              obtain ⟨a', xs', f1, f2, f3, f4⟩ := E2.own i ds' h3
              rw [g1] at f1; cases f1
              refine ⟨a, xs', k, j, rfl, rk.int, f2, by rw [← f3.length]; exact hk, ?_⟩
              have st : Stp (fun x => x = a) H2 (upd H2 a (.lst (xs'.set j v))) := Stp.set rfl (pl_at f2)
              have stM : Stp (MM M0 e2 σ) H2 (upd H2 a (.lst (xs'.set j v))) := st.weak fun x z => z ▸ .inr ⟨i, ds', h3, g1⟩
              obtain ⟨E3, u3, _⟩ := E2.setOwn h3 g1 st upd_same (out := ds'.set j d) ((RepL.stp stM (fun _ z => z) ds' xs' f3).set (Rep.stp stM (fun _ z => z) d v rd2))
              exact h2 σ _ (st.weak fun x z => z ▸ .inr ⟨i, ds', h3, g1⟩) u3.toS E3
          | _ => exact h2.elim
    | _ => cases h3 : e2[i]? <;> rw [h3] at h2 <;> exact h2.elim
  · rw [if_neg ho] at h1; exact h1.elim
end
end Mp
set_option maxHeartbeats 4000000
namespace Mp
open PySem L2 PyProof.Rows
variable [TabsW] [GdW]
section
variable {X : Cx} {G : Ctx} {W : WX}
theorem ocall_read {K : PySem.W.Frag} {j : Nat} {m : Mt} {o' : IR} {is : List IR} (hj : G.mts[j]? = some m) {σ : L2.St} {H : Hp} {Q : VK} (q : tI G W K (.meth j o' is) σ H Q) :
    tI G W K o' σ H fun x H1 => ∃ a, x = .ref a ∧ tIs G W K is σ H1 fun vs H2 => (∃ dx fs, H2 a = some (.ins (clsAt K m.C) dx fs)) ∧ spF K m.n none m.sem (x :: vs) H2 Q (WE W σ) := by
  obtain ⟨H0, M0, A, env, E, q⟩ := q
  rw [ev, hj] at q
  dsimp only at q
  refine ⟨H0, M0, A, env, E, (Sat.bind q).mono fun o e1 H1 he s1 u1 E1 h1 x hx => ?_⟩
  cases o with
  | pl i => exact h1.elim
  | val d =>
    cases d with
    | obj C ns ds =>
      have h1 : Sat K H0 M0 A W (if C = m.C ∧ is.length + 1 = m.n ∧ ns.contains m.name = false then (evs G is e1).bind fun vs e2 => frR e2 none [] (m.sem (.obj C ns ds :: vs)) else .bad) e1 σ H1 (fun o e1 H1 => ∀ v, OpdR K M0 e1 σ H1 o v → Q v H1) := h1
      by_cases hc : C = m.C ∧ is.length + 1 = m.n ∧ ns.contains m.name = false
      · rw [if_pos hc] at h1
        obtain ⟨hC, hn, hno⟩ := hc
        have hx0 : Rep K H1 (MM M0 e1 σ) (.obj C ns ds) x := hx
        have hx1 := hx0
        unfold Rep at hx1
        obtain ⟨a, dx, xs, rfl, nm, ha, hl, rr⟩ := hx1
        refine ⟨a, rfl, ?_⟩
        refine ⟨H0, M0, A, e1, E1, (Sat.bind h1).mono fun vs e2 H2 he2 s2 u2 E2 h2 ws hw => ?_⟩
        have hx2 := hold hx0 E1.aM s2 u2
        have hx3 := hx2
        unfold Rep at hx3
        obtain ⟨a3, dx3, xs3, q3, _, ha3, _⟩ := hx3
        cases q3
        refine ⟨⟨dx3, _, by rw [← hC]; exact ha3⟩, ?_⟩
        refine ⟨by rw [List.length_cons, ← hw.length, evs_len G is e1 vs e2 he2]; exact hn, MM M0 e2 σ, .obj C ns ds :: vs, E2.mok, ?_, ?_⟩
        · refine ⟨by simp [hw.length], fun i d v g1 g2 => ⟨fun _ => ?_, fun z => nomatch z⟩⟩
          obtain ⟨y, y1, y2⟩ := (RepL.cons hx2 hw).get g1
          rw [g2] at y1; cases y1
          exact y2
        · cases e : m.sem (.obj C ns ds :: vs) with
          | bad => rw [e] at h2; exact h2.elim
          | ok d out =>
            rw [e] at h2
            intro v H' st _ rv
            have st' : Stp NoA H2 H' := st.weak fun a ⟨i, z, _⟩ => nomatch z
            exact h2 H' st'.no Sub.refl (E2.keep st') v rv
          | exc C f d out =>
            rw [e] at h2
            intro dd v H' st _ hd rv
            have st' : Stp NoA H2 H' := st.weak fun a ⟨i, z, _⟩ => nomatch z
            exact h2 dd v H' st'.no Sub.refl (E2.keep st') hd rv
      · rw [if_neg hc] at h1; exact h1.elim
    | _ => exact h1.elim
/-- the function that a class has for its objects' calls is a function of the text -/
def CallFn (K : PySem.W.Frag) (C : Addr) : Prop := ∀ f, PySem.W.findIn K (.ref C) "__call__" = some (some (.ref f)) → PySem.W.fnIn K f = true
theorem e_ocall {k j : Nat} {m : Mt} {fe e : Expr} {es : List Expr} {o' : IR} {is : List IR} {pos : Pos} (F : MtF X.prog X.w X.K X.mg X.base k m) (hn : m.name = "__call__") (fi : CallFn X.K (clsAt X.K m.C)) (hj : G.mts[j]? = some m) (hr : Room k X.A) (tk : Takes X W) (ho : PE X fe (tI G W X.K o')) (ha : PA X (e :: es) (tIs G W X.K is)) (h1 : (e :: es).any starB = false)
    (ht : eval (.Call fe (e :: es) [] pos) X.env = (do callWith pos (← eval fe X.env) [] (backTo pos (starEach (e :: es) X.env)) (backToKw pos (keywordEach [] X.env)))) : PE X (.Call fe (e :: es) [] pos) (tI G W X.K (.meth j o' is)) := by
  rw [List.any_cons, Bool.or_eq_false_iff] at h1
  obtain ⟨f, fd, ps, sp, ds, dvs, hm, ok, hb, hd, hs⟩ := F.ex
  have at_ : PySem.W.findIn X.K (.ref (clsAt X.K m.C)) "__call__" = some (some (.ref f)) := by rw [← hn]; exact hm.at_
  refine ⟨fun pins s σ H Q I h => Call_ (thn (ho.run pins s σ H _ I (ocall_read hj h)) fun u s1 ⟨x, H1, I1, rx, a, ex, q⟩ => ?_) ht⟩
  subst ex
  obtain rfl : u = Value.ref a := rx
  refine StX.callO_with (thn (ha.run pos pins s1 σ H1 _ I1 q) fun us s2 ⟨vs, H2, I2, r, ⟨dx, fs, hi⟩, q2⟩ => ?_) (star_cons h1.1) (star_none h1.2)
  obtain ⟨mA, O, _⟩ := ins_get I2.hok hi
  obtain ⟨od, J, _⟩ := O.look
  refine ⟨⟨_, _, _, J, rfl⟩, ?_⟩
  have rr : Vals ((V.ref a :: vs) ++ dvs) ((Value.ref a :: us) ++ ds) := Vals.append (.cons rfl r) hd
  have want := hs _ _ _ _ q2
  have many : ((Value.ref a :: us) ++ ds).length = ps.length := rr.length.symm.trans (ok.len _ _ _ _ want)
  refine wpAny_call (PySem.W.kco_code I2.kIn J rfl at_ hm.fn (fi f at_) (codeAny_mono (ok.go _ X.stack _ _ ⟨Value.ref a :: us, []⟩ _ _ _ (WE W σ) hr I2.env0 (hb _ (Value.ref a :: us) I2.kIn many) rr want) fun res s' got => ?_))
  match res, got with
  | .error e, got => exact passAt tk σ pins _ _ e s' I2 got
  | .ok (.ret u), got => exact I2.after got
  | .ok .next, got => exact got.elim
  | .ok .brk, got => exact got.elim
  | .ok .cont, got => exact got.elim
end
end Mp
set_option maxHeartbeats 4000000
set_option maxHeartbeats 4000000
namespace Mp
open PySem
open L2 PyProof.Rows
variable [TabsW] [GdW]
theorem EnvR.ownApart {K : PySem.W.Frag} {H0 H : Hp} {M0 A : AS} {env : Env} {σ : L2.St} {p : Addr} (E : EnvR K H0 (fun a => M0 a ∨ a = p) A env σ H) {i : Nat} {ds : List D} {vs : List V} (hf : freeB env i = true) (h' : H p = some (.lst vs)) (r : RepL K H (MM (fun a => M0 a ∨ a = p) env σ) ds vs) (nM : ¬ M0 p) (n0 : ¬ Lv H0 p) (hA : ∀ a, A a → M0 a) :
    EnvR K H0 M0 A (env.set i (some (.own ds))) (σ.set i (some (.ref p))) H ∧ ∀ b, MutAt (env.set i (some (.own ds))) (σ.set i (some (.ref p))) b → MutAt env σ b ∨ b = p := by
  have hi := free_lt hf
  have hi' : i < σ.length := by rw [← E.len]; exact hi
  have other : ∀ {j c}, (env.set i (some (Cell.own ds)))[j]? = some (some c) → (i = j ∧ c = .own ds) ∨ (i ≠ j ∧ env[j]? = some (some c) ∧ (σ.set i (some (V.ref p)))[j]? = σ[j]?) := fun {j c} e1 => by
    by_cases hj : i = j
    · subst hj; rw [List.getElem?_set_self hi] at e1; cases e1; exact .inl ⟨rfl, rfl⟩
    · rw [List.getElem?_set_ne hj] at e1; exact .inr ⟨hj, e1, List.getElem?_set_ne hj⟩
  have mutI : ∀ b, MutAt (env.set i (some (Cell.own ds))) (σ.set i (some (V.ref p))) b → MutAt env σ b ∨ b = p := fun b ⟨j, es, e1, e2⟩ => by
    rcases other e1 with ⟨rfl, _⟩ | ⟨hj, e1, e3⟩
    · rw [List.getElem?_set_self hi'] at e2; cases e2; exact .inr rfl
    · rw [e3] at e2; exact .inl ⟨j, es, e1, e2⟩
  have subM : ∀ b, MM M0 (env.set i (some (Cell.own ds))) (σ.set i (some (V.ref p))) b → MM (fun a => M0 a ∨ a = p) env σ b := fun b z => z.elim (fun q => .inl (.inl q)) fun q => (mutI b q).elim .inr fun q => .inl (.inr q)
  have rep : ∀ {d v}, Rep K H (MM (fun a => M0 a ∨ a = p) env σ) d v → Rep K H (MM M0 (env.set i (some (Cell.own ds))) (σ.set i (some (V.ref p)))) d v := fun {d v} r => Rep.stp Stp.refl subM d v r
  have repL : ∀ {es xs}, RepL K H (MM (fun a => M0 a ∨ a = p) env σ) es xs → RepL K H (MM M0 (env.set i (some (Cell.own ds))) (σ.set i (some (V.ref p)))) es xs := fun {es xs} r => RepL.stp Stp.refl subM es xs r
  refine ⟨⟨by rw [List.length_set, List.length_set]; exact E.len, E.old, E.alive, E.tb, fun b hb => E.m0 b (.inl hb), hA, E.a1, fun j d' e1 => ?_, fun j es e1 => ?_, fun j es e1 => ?_, fun j k b es fs e1 e2 e3 e4 => ?_, fun j k es fs e1 e2 => ?_, fun j C ns es e1 => ?_⟩, mutI⟩
  · rcases other e1 with ⟨rfl, e⟩ | ⟨hj, e1, e3⟩
    · cases e
    · obtain ⟨v, a1, a2⟩ := E.dat j d' e1
      exact ⟨v, e3.trans a1, rep a2⟩
  · rcases other e1 with ⟨rfl, e⟩ | ⟨hj, e1, e3⟩
    · cases e
      exact ⟨p, vs, List.getElem?_set_self hi', h', repL r, nM, n0⟩
    · obtain ⟨b, zs, a1, a2, a3, a4, a5⟩ := E.own j es e1
      exact ⟨b, zs, e3.trans a1, a2, repL a3, fun z => a4 (.inl z), a5⟩
  · rcases other e1 with ⟨rfl, e⟩ | ⟨hj, e1, e3⟩
    · cases e
    · obtain ⟨b, zs, a1, a2, a3, a4⟩ := E.io j es e1
      exact ⟨b, zs, e3.trans a1, a2, a3, repL a4⟩
  · have pn : ∀ {j es}, env[j]? = some (some (Cell.own es)) → σ[j]? = some (some (V.ref p)) → False := fun {j es} h1 h2 => by
      obtain ⟨b, zs, a1, a2, _, a4, _⟩ := E.own j es h1
      rw [h2] at a1; cases a1
      exact a4 (.inr rfl)
    rcases other e1 with ⟨rfl, e⟩ | ⟨hj, e1, e5⟩
    · rw [List.getElem?_set_self hi'] at e3; cases e3
      rcases other e2 with ⟨rfl, _⟩ | ⟨_, e2, e6⟩
      · rfl
      · rw [e6] at e4; exact (pn e2 e4).elim
    · rw [e5] at e3
      rcases other e2 with ⟨rfl, _⟩ | ⟨_, e2, e6⟩
      · rw [List.getElem?_set_self hi'] at e4; cases e4
        exact (pn e1 e3).elim
      · rw [e6] at e4
        exact E.inj j k b es fs e1 e2 e3 e4
  · rcases other e1 with ⟨rfl, e⟩ | ⟨_, e1, _⟩
    · cases e
    · rcases other e2 with ⟨rfl, e⟩ | ⟨_, e2, _⟩
      · cases e
      · exact E.io1 j k es fs e1 e2
  · rcases other e1 with ⟨rfl, e⟩ | ⟨_, e1, _⟩
    · cases e
    · exact E.slf j C ns es e1
theorem Sat.apart {α : Type} {K : PySem.W.Frag} {H0 H : Hp} {M0 M1 A : AS} {W : WX} {r : R α} {env : Env} {σ : L2.St} {P : α → Env → Hp → Prop} (hM : ∀ a, M0 a → M1 a) (hA : ∀ a, A a → M0 a) (q : Sat K H0 M0 A W r env σ H P) : Sat K H0 M1 A W r env σ H P := by
  cases r with
  | bad => exact q
  | ok o e' => exact fun H' s u E => q H' s u (E.less hM hA)
  | exc C f d e' => exact fun dd v H' s u E h r => q dd v H' s u (E.less hM hA) h (Rep.stp Stp.refl (fun a z => z.elim (fun w => .inl (hM a w)) .inr) d v r)
section
variable {X : Cx} {G : Ctx} {W : WX}
theorem take_readA {K : PySem.W.Frag} {H0 H : Hp} {M0 A : AS} {env : Env} {σ : L2.St} {i : IR} {P : D → Env → Hp → Prop} (E : EnvR K H0 M0 A env σ H) (q : Sat K H0 M0 A W ((ev G i env).take) env σ H P)
    {Q : VK} (k : ∀ d v e1 H1, EnvR K H0 M0 A e1 σ H1 → Rep K H1 (MM M0 e1 σ) d v → Stp (WW A env σ) H H1 → Sub σ env e1 → P d e1 H1 → Q v H1) : tI G W K i σ H Q := by
  unfold R.take at q
  refine ⟨H0, M0, A, env, E, (Sat.bind q).mono fun o e1 H1 _ s1 u1 E1 h1 x hx => ?_⟩
  cases e : takeO e1 o with
  | none => rw [e] at h1; exact h1.elim
  | some p =>
    obtain ⟨d, e2⟩ := p
    rw [e] at h1
    obtain ⟨E2, rd, u2⟩ := E1.take hx e
    exact k d x e2 H1 E2 rd s1 (u1.trans u2) (h1 H1 Stp.refl u2 E2)
end
end Mp
namespace Mp
open PySem
open L2 PyProof.Rows
variable [TabsW] [GdW]
section
variable {X : Cx} {G : Ctx} {W : WX}
/-- a new list ahead of what follows: nothing of ours is it -/
theorem EnvR.notW {K : PySem.W.Frag} {H0 H : Hp} {M0 A : AS} {env : Env} {σ : L2.St} {p : Addr} (E : EnvR K H0 (fun a => M0 a ∨ a = p) A env σ H) (nA : ¬ A p) : ¬ WW A env σ p := fun z => by
  rcases z with z | ⟨j, es, z1, z2⟩
  · exact nA z
  · obtain ⟨b, zs, b1, _, _, b4, _⟩ := E.own j es z1
    rw [z2] at b1; cases b1
    exact b4 (.inr rfl)
theorem SatS.from {α : Type} {K : PySem.W.Frag} {H0 H H1 : Hp} {M0 A : AS} {env e1 : Env} {σ : L2.St} {r : R α} {f : α → Env → SR} {D : Ends} (h : SatS K H0 M0 A W (r.toS f) env σ H D) (s : Stp (WW A env σ) H H1) (u : Sub σ env e1) : Sat K H0 M0 A W r e1 σ H1 fun a e2 _ => SatS K H0 M0 A W (f a e2) env σ H D := by
  cases r with
  | bad => exact h
  | exc C n d e' => exact fun dd v H' s' u' E' => h σ dd v H' (s.sTrans u.toS s') (u.trans u').toS E'
  | ok a e' => exact fun H' s' u' E' => h
theorem st_parl3 {s : Stmt} {i j k : Nat} {a b : IR} (h : PS X s (tPar3 i j k (fun σ H Q => tNil0 σ H fun x H1 => tI G W X.K a σ H1 fun y H2 => tI G W X.K b σ H2 fun z H3 => Q [x, y, z] H3))) : PS X s (tS G W X.K (.parl3 i j a k b)) := PS.by_ h fun D σ H q => by
  obtain ⟨H0, M0, A, env, E, q⟩ := q
  rw [evS] at q
  intro p hp
  have st : Stp (WW A env σ) H (upd H p (.lst [])) := Stp.new hp
  have nM : ¬ M0 p := fun z => (E.m0 p z).ne hp
  have nA : ¬ A p := fun z => nM (E.aM p z)
  have n0 : ¬ Lv H0 p := fun z => (E.alive p z).ne hp
  have E1 := E.apart (o := .lst []) hp
  refine take_readA E1 ((q.from st Sub.refl).apart (fun a z => .inl z) E.aM) fun d v e1 H1 E2 rd s1 u1 h1 => ?_
  have sA : Stp (WW A env σ) H H1 := st.trans s1
  refine take_readA E2 ((h1.from sA u1).apart (fun a z => .inl z) E.aM) fun d2 v2 e2 H2 E3 rd2 s2 u2 h2 => ?_
  by_cases hc : freeB e2 i = true ∧ freeB e2 j = true ∧ freeB e2 k = true ∧ i ≠ j ∧ i ≠ k ∧ j ≠ k
  · rw [if_pos hc] at h2
    obtain ⟨hi, hj, hk, hij, hik, hjk⟩ := hc
    have hP1 : H1 p = some (.lst []) := s1.st p _ upd_same (E1.notW nA) nt_lst
    have hP : H2 p = some (.lst []) := s2.st p _ hP1 (E2.notW nA) nt_lst
    have rd' := hold rd E2.aM s2 u2
    obtain ⟨E4, u4⟩ := E3.setDat (i := j) (free_lt hj) rd'
    obtain ⟨E5, u5⟩ := E4.setDat (i := k) (by rw [List.length_set]; exact free_lt hk) (Rep.stp Stp.refl (fun a z => z.elim .inl fun q => .inr (u4 a q)) d2 v2 rd2)
    obtain ⟨E6, u6⟩ := E5.ownApart (i := i) (ds := []) (vs := []) (by rw [free_set (Ne.symm hik), free_set (Ne.symm hij)]; exact hi) hP RepL.nil nM n0 E.aM
    refine ⟨.ref p, v, v2, rfl, ?_⟩
    have h2 : ∀ σ' H', Stp (WW A env σ) H H' → SubS σ env H σ' (((e2.set j (some (.dat d))).set k (some (.dat d2))).set i (some (.own []))) → EnvR X.K H0 M0 A (((e2.set j (some (.dat d))).set k (some (.dat d2))).set i (some (.own []))) σ' H' → D.nx σ' H' := h2
    rw [List.set_comm _ _ hij, List.set_comm _ _ hik]
    refine h2 _ _ (sA.sTrans u1.toS s2) ⟨fun b z => ?_, by rw [List.length_set, List.length_set, List.length_set]⟩ E6
    rcases u6 b z with z | z
    · exact .inl (u1.own b (u2.own b (u4 b (u5 b z))))
    · exact .inr (by rw [z]; exact nn_of hp)
  · rw [if_neg hc] at h2; exact h2.elim
end
end Mp
set_option maxHeartbeats 4000000
namespace Mp
open PySem L2
variable [TabsW] [GdW]
section
variable {G : Ctx}
theorem meth_ok2 {j : Nat} {o : IR} {es : List IR} {env env0 env1 : Env} {C : Str} {ns : List Str} {ds vs : List D} {d : D} {m : Mt} (hm : G.mts[j]? = some m) (ho : ev G o env = .ok (.val (.obj C ns ds)) env0) (hc : C = m.C ∧ es.length + 1 = m.n ∧ ns.contains m.name = false) (he : evs G es env0 = .ok vs env1) (hs : m.sem (.obj C ns ds :: vs) = .ok d []) : ev G (.meth j o es) env = .ok (.val d) env1 := by
  rw [evq_meth, hm, ho]
  show (if C = m.C ∧ es.length + 1 = m.n ∧ ns.contains m.name = false then (evs G es env0).bind fun vs e2 => frR e2 none [] (m.sem (.obj C ns ds :: vs)) else .bad) = _
  rw [if_pos hc, he]
  show frR env1 none [] (m.sem (.obj C ns ds :: vs)) = _
  rw [hs]; rfl
theorem meth_exc {j : Nat} {o : IR} {es : List IR} {env env0 env1 : Env} {C C' f : Str} {ns : List Str} {ds vs : List D} {d : D} {m : Mt} (hm : G.mts[j]? = some m) (ho : ev G o env = .ok (.val (.obj C ns ds)) env0) (hc : C = m.C ∧ es.length + 1 = m.n ∧ ns.contains m.name = false) (he : evs G es env0 = .ok vs env1) (hs : m.sem (.obj C ns ds :: vs) = .exc C' f d []) : ev G (.meth j o es) env = .exc C' f d env1 := by
  rw [evq_meth, hm, ho]
  show (if C = m.C ∧ es.length + 1 = m.n ∧ ns.contains m.name = false then (evs G es env0).bind fun vs e2 => frR e2 none [] (m.sem (.obj C ns ds :: vs)) else .bad) = _
  rw [if_pos hc, he]
  show frR env1 none [] (m.sem (.obj C ns ds :: vs)) = _
  rw [hs]; rfl
theorem make_ok {j : Nat} {es : List IR} {env env1 : Env} {m : Mkr} {vs out : List D} {d : D} (hm : G.mks[j]? = some m) (hn : es.length = m.n) (he : evs G es env = .ok vs env1) (hs : m.sem vs = .ok d out) : ev G (.make j es) env = .ok (.val (.obj m.C m.ns out)) env1 := by
  rw [evq_make, hm]
  dsimp only
  show (if es.length = m.n then (evs G es env).bind fun vs e1 => (match m.sem vs with
      | .ok _ out => R.ok (Opd.val (.obj m.C m.ns out)) e1
      | .exc C f d _ => .exc C f d e1
      | .bad => .bad) else .bad) = _
  rw [if_pos hn, he]
  show (match m.sem vs with
      | .ok _ out => R.ok (Opd.val (.obj m.C m.ns out)) env1
      | .exc C f d _ => .exc C f d env1
      | .bad => .bad) = _
  rw [hs]
theorem call_ok {j : Nat} {es : List IR} {env env1 : Env} {f : Fn} {ds out : List D} {d : D} (hc : ev G (.call j es) env = (evs G es env).bind fun ds e1 => runF e1 (f.sem ds)) (he : evs G es env = .ok ds env1) (hs : f.sem ds = .ok d out) : ev G (.call j es) env = .ok (.val d) env1 := by
  rw [hc, he]
  show runF env1 (f.sem ds) = _
  rw [hs]; rfl
theorem call_exc {j : Nat} {es : List IR} {env env1 : Env} {f : Fn} {ds out : List D} {C x : Str} {d : D} (hc : ev G (.call j es) env = (evs G es env).bind fun ds e1 => runF e1 (f.sem ds)) (he : evs G es env = .ok ds env1) (hs : f.sem ds = .exc C x d out) : ev G (.call j es) env = .exc C x d env1 := by
  rw [hc, he]
  show runF env1 (f.sem ds) = _
  rw [hs]; rfl
theorem evs0 {E : Env} : evs G [] E = .ok [] E := by rw [evs]
theorem evs_cons {a : IR} {as : List IR} {E E1 E2 : Env} {d : D} {ds : List D} (h : ev G a E = .ok (.val d) E1) (h2 : evs G as E1 = .ok ds E2) : evs G (a :: as) E = .ok (d :: ds) E2 := by
  rw [evs, h]
  show (evs G as E1).bind _ = _
  rw [h2]; rfl
theorem evs1 {a : IR} {E E1 : Env} {d : D} (h : ev G a E = .ok (.val d) E1) : evs G [a] E = .ok [d] E1 := evs_cons h evs0
theorem evs2 {a b : IR} {E E1 E2 : Env} {d c : D} (h : ev G a E = .ok (.val d) E1) (h2 : ev G b E1 = .ok (.val c) E2) : evs G [a, b] E = .ok [d, c] E2 := evs_cons h (evs1 h2)
theorem evs3 {a b c : IR} {E E1 E2 E3 : Env} {d e f : D} (h : ev G a E = .ok (.val d) E1) (h2 : ev G b E1 = .ok (.val e) E2) (h3 : ev G c E2 = .ok (.val f) E3) : evs G [a, b, c] E = .ok [d, e, f] E3 := evs_cons h (evs2 h2 h3)
theorem x_v {i : Nat} {E : Env} {d : D} (h : E[i]? = some (some (.dat d))) : ev G (.v i) E = .ok (.val d) E := by
  rw [evq_v]; unfold cellAt; rw [h]; rfl
theorem x_c {E : Env} {d : D} : ev G (.c d) E = .ok (.val d) E := evq_c
theorem x_bin {op : BOp} {a b : IR} {E E1 E2 : Env} {x y z : D} (h : ev G a E = .ok (.val x) E1) (h2 : ev G b E1 = .ok (.val y) E2) (h3 : binD op x y = some z) : ev G (.bin op a b) E = .ok (.val z) E2 := by
  rw [evq_bin, h]
  show ((ev G b E1).bind fun y e2 => match rdO e2 (.val x), rdO e2 y with
    | some p, some q => lift e2 (binD op p q)
    | _, _ => .bad) = _
  rw [h2]
  show lift E2 (binD op x y) = _
  rw [h3]; rfl
theorem x_cmp {op : COp} {a b : IR} {E E1 E2 : Env} {x y : D} {z : Bool} (h : ev G a E = .ok (.val x) E1) (h2 : ev G b E1 = .ok (.val y) E2) (h3 : cmpD op x y = some z) : ev G (.cmp op a b) E = .ok (.val (.bl z)) E2 := by
  rw [evq_cmp, h]
  show ((ev G b E1).bind fun y e2 => match rdO e2 (.val x), rdO e2 y with
    | some p, some q => lift e2 ((cmpD op p q).map .bl)
    | _, _ => .bad) = _
  rw [h2]
  show lift E2 ((cmpD op x y).map .bl) = _
  rw [h3]; rfl
theorem x_and_t {a b : IR} {E E1 : Env} {x : D} (h : ev G a E = .ok (.val x) E1) (ht : truD x = some true) : ev G (.and_ a b) E = ev G b E1 := by
  rw [evq_and_, h]
  show (match (rdO E1 (.val x)).bind truD with
    | some true => ev G b E1
    | some false => R.ok (Opd.val x) E1
    | none => R.bad) = _
  rw [show (rdO E1 (.val x)).bind truD = some true from ht]
theorem x_and_f {a b : IR} {E E1 : Env} {x : D} (h : ev G a E = .ok (.val x) E1) (ht : truD x = some false) : ev G (.and_ a b) E = .ok (.val x) E1 := by
  rw [evq_and_, h]
  show (match (rdO E1 (.val x)).bind truD with
    | some true => ev G b E1
    | some false => R.ok (Opd.val x) E1
    | none => R.bad) = _
  rw [show (rdO E1 (.val x)).bind truD = some false from ht]
theorem x_or_f {a b : IR} {E E1 : Env} {x : D} (h : ev G a E = .ok (.val x) E1) (ht : truD x = some false) : ev G (.or_ a b) E = ev G b E1 := by
  rw [evq_or_, h]
  show (match (rdO E1 (.val x)).bind truD with
    | some true => R.ok (Opd.val x) E1
    | some false => ev G b E1
    | none => R.bad) = _
  rw [show (rdO E1 (.val x)).bind truD = some false from ht]
theorem x_or_t {a b : IR} {E E1 : Env} {x : D} (h : ev G a E = .ok (.val x) E1) (ht : truD x = some true) : ev G (.or_ a b) E = .ok (.val x) E1 := by
  rw [evq_or_, h]
  show (match (rdO E1 (.val x)).bind truD with
    | some true => R.ok (Opd.val x) E1
    | some false => ev G b E1
    | none => R.bad) = _
  rw [show (rdO E1 (.val x)).bind truD = some true from ht]
theorem x_not {a : IR} {E E1 : Env} {x : D} {b : Bool} (h : ev G a E = .ok (.val x) E1) (ht : truD x = some b) : ev G (.not_ a) E = .ok (.val (.bl (!b))) E1 := by
  rw [evq_not_, h]
  show (match (rdO E1 (.val x)).bind truD with
    | some b => R.ok (Opd.val (.bl (!b))) E1
    | none => R.bad) = _
  rw [show (rdO E1 (.val x)).bind truD = some b from ht]
theorem x_notb {a : IR} {E E1 : Env} {b : Bool} (h : ev G a E = .ok (.val (.bl b)) E1) : ev G (.not_ a) E = .ok (.val (.bl (!b))) E1 := x_not h rfl
theorem x_ite_t {t a b : IR} {E E1 : Env} {x : D} (h : ev G t E = .ok (.val x) E1) (ht : truD x = some true) : ev G (.ite t a b) E = ev G a E1 := by
  rw [evq_ite, h]
  show (R.bind (match (rdO E1 (.val x)).bind truD with
    | some b => R.ok b E1
    | none => .bad) fun c e1 => if c then ev G a e1 else ev G b e1) = _
  rw [show (rdO E1 (.val x)).bind truD = some true from ht]; rfl
theorem x_ite_f {t a b : IR} {E E1 : Env} {x : D} (h : ev G t E = .ok (.val x) E1) (ht : truD x = some false) : ev G (.ite t a b) E = ev G b E1 := by
  rw [evq_ite, h]
  show (R.bind (match (rdO E1 (.val x)).bind truD with
    | some b => R.ok b E1
    | none => .bad) fun c e1 => if c then ev G a e1 else ev G b e1) = _
  rw [show (rdO E1 (.val x)).bind truD = some false from ht]; rfl
theorem x_tup {es : List IR} {E E1 : Env} {ds : List D} (h : evs G es E = .ok ds E1) (hl : ds.length ≤ BIG) : ev G (.tup es) E = .ok (.val (.tup ds)) E1 := by
  rw [evq_tup, h]
  show (if ds.length ≤ BIG then _ else _) = _
  rw [if_pos hl]
theorem x_lst {es : List IR} {E E1 : Env} {ds : List D} (h : evs G es E = .ok ds E1) (hl : ds.length ≤ BIG) : ev G (.lst es) E = .ok (.val (.lst ds)) E1 := by
  rw [evq_lst, h]
  show (if ds.length ≤ BIG then _ else _) = _
  rw [if_pos hl]
theorem x_ix {a b : IR} {E E1 E2 : Env} {x y z : D} (h : ev G a E = .ok (.val x) E1) (h2 : ev G b E1 = .ok (.val y) E2) (h3 : ixD x y = some z) : ev G (.ix a b) E = .ok (.val z) E2 := by
  rw [evq_ix, h]
  show ((ev G b E1).bind fun y e2 => match rdO e2 (.val x), rdO e2 y with
    | some p, some q => lift e2 (ixD p q)
    | _, _ => .bad) = _
  rw [h2]
  show lift E2 (ixD x y) = _
  rw [h3]; rfl
theorem x_blt1 {b : Blt} {a : IR} {E E1 : Env} {x z : D} (h : ev G a E = .ok (.val x) E1) (h3 : bltD b [x] = some z) : ev G (.blt b [a]) E = .ok (.val z) E1 := by
  rw [evq_blt, evr, h, R.bind_ok, evr, R.bind_ok, R.bind_ok]
  show lift E1 (bltD b [x]) = _
  rw [h3]; rfl
theorem x_blt2 {b : Blt} {a c : IR} {E E1 E2 : Env} {x y z : D} (h : ev G a E = .ok (.val x) E1) (h2 : ev G c E1 = .ok (.val y) E2) (h3 : bltD b [x, y] = some z) : ev G (.blt b [a, c]) E = .ok (.val z) E2 := by
  rw [evq_blt, evr, h, R.bind_ok, evr, h2, R.bind_ok, evr, R.bind_ok, R.bind_ok, R.bind_ok]
  show lift E2 (bltD b [x, y]) = _
  rw [h3]; rfl
theorem x_ocmp {j : Nat} {a b : IR} {E E1 E2 : Env} {m : Mt} {C : Str} {ns ns' : List Str} {ds ds' out : List D} {z : Bool} (hm : G.mts[j]? = some m) (h : ev G a E = .ok (.val (.obj C ns ds)) E1) (h2 : ev G b E1 = .ok (.val (.obj C ns' ds')) E2) (hc : C = m.C ∧ C = m.C ∧ m.n = 2) (hs : m.sem [.obj C ns ds, .obj C ns' ds'] = .ok (.bl z) out) : ev G (.ocmp j a b) E = .ok (.val (.bl z)) E2 := by
  rw [evq_ocmp, h]
  show ((ev G b E1).bind _) = _
  rw [h2, hm]
  show (if C = m.C ∧ C = m.C ∧ m.n = 2 then (match m.sem [.obj C ns ds, .obj C ns' ds'] with
      | .ok (.bl k) _ => R.ok (Opd.val (.bl k)) E2
      | _ => .bad) else .bad) = _
  rw [if_pos hc, hs]
theorem take_okD {e : IR} {E E1 : Env} {d : D} (h : ev G e E = .ok (.val d) E1) : (ev G e E).take = .ok d E1 := by rw [h]; rfl
theorem tru_valB {e : IR} {E E1 : Env} {d : D} {b : Bool} (h : ev G e E = .ok (.val d) E1) (ht : truD d = some b) : truR (ev G e E) = .ok b E1 := by
  rw [h]
  show (match (rdO E1 (.val d)).bind truD with
    | some b => R.ok b E1
    | none => .bad) = _
  rw [show (rdO E1 (.val d)).bind truD = some b from ht]
theorem heard_exc {cs : List HC} {e : IR} {E E1 : Env} {C f : Str} {d z : D} (h : ev G e E = .exc C f d E1) (hh : hear cs C f d = some z) : ev G (.heard cs e) E = .ok (.val z) E1 := by
  rw [ev, h]
  show lift E1 (hear cs C f d) = _
  rw [hh]; rfl
theorem t_asg {i : Nat} {e : IR} {E E1 E2 : Env} {d : D} (h : ev G e E = .ok (.val d) E1) (hb : bindT (.name i) d E1 = some E2) : evS G (.asg (.name i) e) E = .nx E2 := by
  rw [evS, take_okD h]
  show (match bindT (.name i) d E1 with
    | some e2 => SR.nx e2
    | none => .bad) = _
  rw [hb]
theorem t_asgt {tg : Tgt} {e : IR} {E E1 E2 : Env} {d : D} (h : ev G e E = .ok (.val d) E1) (hb : bindT tg d E1 = some E2) : evS G (.asg tg e) E = .nx E2 := by
  rw [evS, take_okD h]
  show (match bindT tg d E1 with
    | some e2 => SR.nx e2
    | none => .bad) = _
  rw [hb]
theorem t_if_f {e : IR} {A B : List ST} {E E1 : Env} {d : D} (h : ev G e E = .ok (.val d) E1) (ht : truD d = some false) : evS G (.if_ e A B) E = evSs G B E1 := by
  rw [evS, tru_valB h ht]; rfl
theorem t_if_t {e : IR} {A B : List ST} {E E1 : Env} {d : D} (h : ev G e E = .ok (.val d) E1) (ht : truD d = some true) : evS G (.if_ e A B) E = evSs G A E1 := by
  rw [evS, tru_valB h ht]; rfl
theorem t_if_f0 {e : IR} {A : List ST} {E E1 : Env} (h : ev G e E = .ok (.val (.bl false)) E1) : evS G (.if_ e A []) E = .nx E1 := by
  rw [t_if_f h rfl, evSs]
theorem t_ret {e : IR} {E E1 : Env} {d : D} (h : ev G e E = .ok (.val d) E1) : evS G (.ret e) E = .rt d E1 := by
  rw [evS, take_okD h]; rfl
theorem t_expr {e : IR} {E E1 : Env} {d : D} (h : ev G e E = .ok (.val d) E1) : evS G (.expr e) E = .nx E1 := by
  rw [evS, h]; rfl
theorem t_raise {C f : Str} {e : IR} {E E1 : Env} {d : D} (h : ev G e E = .ok (.val d) E1) : evS G (.raise C f e) E = .exc C f d E1 := by
  rw [evS, evs1 h]; rfl
theorem ss_nx {s : ST} {ss : List ST} {E E1 : Env} (h : evS G s E = .nx E1) : evSs G (s :: ss) E = evSs G ss E1 := by
  rw [evSs, h]; rfl
theorem ss_rt {s : ST} {ss : List ST} {E E1 : Env} {d : D} (h : evS G s E = .rt d E1) : evSs G (s :: ss) E = .rt d E1 := by
  rw [evSs, h]; rfl
theorem ss_exc {s : ST} {ss : List ST} {E E1 : Env} {C f : Str} {d : D} (h : evS G s E = .exc C f d E1) : evSs G (s :: ss) E = .exc C f d E1 := by
  rw [evSs, h]; rfl
theorem ss0 {E : Env} : evSs G [] E = .nx E := by rw [evSs]
theorem t_for {tg : Tgt} {it : IT} {b : List ST} {E E1 : Env} {ds : List D} {r : SR} (h : evi G it E = .ok ds E1) (hf : forL tg (fun e => evSs G b e) ds E1 = r) : evS G (.for_ tg it b) E = r := by
  rw [evS, h]; exact hf
/-- a def without a changed argument -/
theorem sem_rt {m : Nat} {b : List ST} {ds : List D} {d : D} {e : Env} (h : evSs G b (startE none m ds) = .rt d e) : semB G m none b ds = .ok d [] := by
  rw [semB, h]; rfl
theorem sem_exc {m : Nat} {b : List ST} {ds : List D} {C f : Str} {d : D} {e : Env} (h : evSs G b (startE none m ds) = .exc C f d e) : semB G m none b ds = .exc C f d [] := by
  rw [semB, h]; rfl
/-- a for whose turns all go on, an invariant kept -/
theorem forL_keep {α : Type} {tg : Tgt} {body : Env → SR} (f : α → D) (Inv : Env → Prop) : ∀ (l : List α) (env : Env), Inv env → (∀ a, a ∈ l → ∀ env, Inv env → ∃ e1 e2, bindT tg (f a) env = some e1 ∧ body e1 = .nx e2 ∧ Inv e2) → ∃ e, forL tg body (l.map f) env = .nx e ∧ Inv e
  | [], env, h, _ => ⟨env, rfl, h⟩
  | a :: l, env, h, st => by
    obtain ⟨e1, e2, h1, h2, h3⟩ := st a List.mem_cons_self env h
    obtain ⟨e, k1, k2⟩ := forL_keep f Inv l e2 h3 fun b hb => st b (List.mem_cons_of_mem _ hb)
    refine ⟨e, ?_, k2⟩
    rw [List.map_cons, forL, h1]
    dsimp only
    rw [h2]
    exact k1
end
end Mp
set_option maxHeartbeats 4000000
namespace Mp
open PySem L2
variable [TabsW] [GdW]
section
variable {X : Cx} {G : Ctx} {W : WX}
/-- [], a, b at once -/
theorem pa_nil3 {ea eb : Expr} {a b : IR} {pos : Pos} (ha : PE X ea (tI G W X.K a)) (hb : PE X eb (tI G W X.K b)) (s1 : starB ea = false) (s2 : starB eb = false) : PA X [.List [] pos, ea, eb] (fun σ H Q => tNil0 σ H fun x H1 => tI G W X.K a σ H1 fun y H2 => tI G W X.K b σ H2 fun z H3 => Q [x, y, z] H3) :=
  pa_cons pe_nil0 (pa_cons ha (pa_cons hb pa_nil (star_cons s2)) (star_cons s1)) (star_cons rfl)
end
end Mp
set_option maxHeartbeats 4000000
namespace Mp
open PySem PySem.W L2 PyProof.Rows
section
variable {X : Cx} {pins : List (Addr × Obj)} {σ : L2.St} {H : Hp} {s : Shared}
/-- a value's type, looked up -/
theorem look_of {x : V} {u t : Value} (I : Inv X pins σ H s) (rx : RelV x u) (ty : TyX X.K H x t) (hb : ∀ n, t = .type n → n ≠ "bytes" ∧ n ≠ "set" ∧ n ≠ "float") : Looks (model X.prog X.w) s.heap (typeOf u) t := by
  cases ty with
  | base b =>
    cases b with
    | non => cases (show u = Value.none from rx); exact Looks.of_pure rfl
    | bl y => cases (show u = Value.bool y from rx); exact Looks.of_pure rfl
    | int i => obtain ⟨t, q⟩ := (show ∃ t, u = Value.int i t from rx); cases q; exact Looks.of_pure rfl
    | str y => obtain ⟨t, q⟩ := (show ∃ t, u = Value.str y t from rx); cases q; exact Looks.of_pure rfl
    | flt y => exact absurd rfl (hb _ rfl).2.2
    | @lst a xs ea =>
      cases (show u = Value.ref a from rx)
      obtain ⟨_, _, n, _, h1⟩ := (show ObjOk X.prog X.w H s.heap a (.lst xs) from I.hok a _ ea)
      exact fun A Q E s k q => wpAny_typeOf_ref (k _ _ h1) q
    | @frz a ob xs ea =>
      cases (show u = Value.ref a from rx)
      obtain ⟨_, _, _, n, _, h1⟩ := (show ObjOk X.prog X.w H s.heap a (.frz ob (.lst xs)) from I.hok a _ ea)
      exact fun A Q E s k q => wpAny_typeOf_ref (k _ _ h1) q
    | @tup a xs ea =>
      cases (show u = Value.ref a from rx)
      obtain ⟨_, _, _, o, h1, h2, _⟩ := (show ObjOk X.prog X.w H s.heap a (.tup xs) from I.hok a _ ea)
      exact fun A Q E s k q => wpAny_typeOf_ref (k _ _ h1) (by rw [h2]; exact q)
    | @dK a kvs ea =>
      cases (show u = Value.ref a from rx)
      obtain ⟨_, _, vs, _, o, es, ep, h1, h2, _⟩ := (show ObjOk X.prog X.w H s.heap a (.dK kvs) from I.hok a _ ea)
      exact fun A Q E s k q => wpAny_typeOf_ref (k _ _ h1) (by rw [h2.1]; exact q)
    | @dT a kvs ea =>
      cases (show u = Value.ref a from rx)
      obtain ⟨_, _, xs, _, o, es, ep, h1, h2, _⟩ := (show ObjOk X.prog X.w H s.heap a (.dT kvs) from I.hok a _ ea)
      exact fun A Q E s k q => wpAny_typeOf_ref (k _ _ h1) (by rw [h2.1]; exact q)
    | @ins a C dx fs ea cl ha hn htk hm =>
      cases (show u = Value.ref a from rx)
      obtain ⟨mA, O, _⟩ := ins_get I.hok ea
      obtain ⟨od, J, _⟩ := O.look
      exact J.type
  | byt y => exact absurd rfl (hb _ rfl).1
  | @set a S n ea => exact absurd rfl (hb _ rfl).2.1
  | @kList a o e c =>
    cases (show u = Value.ref a from rx)
    have h1 := I.kIn a o e
    exact fun A Q E s k q => wpAny_typeOf_ref (k _ _ h1) (by rw [c]; exact q)
  | @kTuple a o e c =>
    cases (show u = Value.ref a from rx)
    have h1 := I.kIn a o e
    exact fun A Q E s k q => wpAny_typeOf_ref (k _ _ h1) (by rw [c]; exact q)
  | @kDict a o e c =>
    cases (show u = Value.ref a from rx)
    have h1 := I.kIn a o e
    exact fun A Q E s k q => wpAny_typeOf_ref (k _ _ h1) (by rw [c]; exact q)
  | @fTuple a ob xs ea =>
    cases (show u = Value.ref a from rx)
    obtain ⟨_, _, _, _, o, h1, h2, _⟩ := (show ObjOk X.prog X.w H s.heap a (.frz ob (.tup xs)) from I.hok a _ ea)
    exact fun A Q E s k q => wpAny_typeOf_ref (k _ _ h1) (by rw [h2]; exact q)
  | @fDict a ob kvs ea =>
    cases (show u = Value.ref a from rx)
    obtain ⟨_, _, _, vs, _, o, es, ep, h1, h2, _⟩ := (show ObjOk X.prog X.w H s.heap a (.frz ob (.dK kvs)) from I.hok a _ ea)
    exact fun A Q E s k q => wpAny_typeOf_ref (k _ _ h1) (by rw [h2.1]; exact q)
end
/-- the built-in kinds of data are no subclasses of an own class -/
structure NFo (K : PySem.W.Frag) (C : Str) : Prop where
  n : subIn K (.type "NoneType") (.ref (clsAt K C)) = some false
  b : subIn K (.type "bool") (.ref (clsAt K C)) = some false
  i : subIn K (.type "int") (.ref (clsAt K C)) = some false
  s : subIn K (.type "str") (.ref (clsAt K C)) = some false
  l : subIn K (.type "list") (.ref (clsAt K C)) = some false
  t : subIn K (.type "tuple") (.ref (clsAt K C)) = some false
  d : subIn K (.type "dict") (.ref (clsAt K C)) = some false
  ne : findIn K (.ref (clsAt K C)) "__ne__" = some (some (.builtin "object.__ne__"))
section
variable [TabsW] [GdW] {X : Cx} {G : Ctx} {W : WX}
def rOq (K : PySem.W.Frag) (C : Addr) (n : Nat) (F : List D → FR) (neg : Bool) : R2 := fun x y H Q => ∃ a dx fs t, x = .ref a ∧ H a = some (.ins C dx fs) ∧ TyX K H y t ∧ (∀ n, t = .type n → n ≠ "bytes" ∧ n ≠ "set" ∧ n ≠ "float") ∧ notFirst K C t = true ∧ ∀ E, spF K n none F [x, y] H (fun v H' => ∃ c, v = .bl c ∧ Q (.bl (neg ^^ c)) H') E
theorem op_oeq {k : Nat} {m : Mt} (F0 : MtF X.prog X.w X.K X.mg X.base k m) (hn : m.name = "__eq__") (hr : Room k X.A) (tk : Takes X W) : OpR X (compareOp .Eq) (rOq X.K (clsAt X.K m.C) m.n m.sem false) := by
  intro pins s σ H x y v u Q I rx ry h
  obtain ⟨a, dx, fs, t, rfl, ha, ty, hbt, nf, q⟩ := h
  obtain ⟨f, fd, ps, sp, ds, dvs, hm, ok, bi, hd, hs⟩ := F0.ex
  cases (show v = Value.ref a from rx)
  obtain ⟨mA, O, _⟩ := ins_get I.hok ha
  obtain ⟨od, J, _⟩ := O.look
  obtain ⟨m', hF⟩ := I.fr
  have hat : findIn X.K (.ref (clsAt X.K m.C)) (cmpInfo .Eq).2.1 = some (some (.ref f)) := by have := hm.at_; rw [hn] at this; exact this
  show wpAny (model X.prog X.w) X.A (richCompare .Eq (.ref a) u) (EP X pins σ Q) X.xe s
  refine PySem.W.cmp_K (op := .Eq) (tb := t) hr.r.units0 hF I.ok.mod.kin J (look_of I ry ty hbt) nf hat hm.fn ?_
  refine wpAny_mono (run_fnSD (E := WE W) (us := [.ref a, u]) (vs := [.ref a, y]) ok hr bi hd (passAt tk σ) I (.cons rfl (.cons ry .nil)) (hs _ _ _ _ (q (WE W σ)))) (fun w s' z => ?_) fun _ _ x => x
  obtain ⟨z', H', I', rz, c, rfl, qz⟩ := z
  exact SlX.cmpback rz ⟨_, H', I', rz, by rw [Bool.false_xor] at qz; exact qz⟩
end
end Mp
set_option maxHeartbeats 4000000
namespace Mp
open PySem L2 PyProof.Rows
variable [TabsW] [GdW]
section
variable {X : Cx} {G : Ctx} {W : WX}
def okD (C : Str) (d : D) : Bool := match d with
  | .obj C' _ _ => decide (C' = C)
  | .raw _ => false
  | .fn _ => false
  | _ => true
theorem evq_oeq {neg : Bool} {j : Nat} {a b : IR} {env : Env} : ev G (.oeq neg j a b) env = ((ev G a env).bind fun x e1 => (ev G b e1).bind fun y e2 => match G.mts[j]?, x, y with
    | some m, .val (.obj C ns ds), .val d => if C = m.C ∧ m.n = 2 ∧ okD m.C d = true then (match m.sem [.obj C ns ds, d] with
      | .ok (.bl k) _ => .ok (.val (.bl (neg ^^ k))) e2
      | _ => .bad) else .bad
    | _, _, _ => .bad) := by first | (rw [ev]; done) | (rw [ev]; rfl)
theorem type_of {K : PySem.W.Frag} {m : Mt} (IC : IsC K m.C) (NF : NFo K m.C) {H : Hp} {M : AS} {d : D} {v : V} (r : Rep K H M d v) (k : okD m.C d = true) : ∃ t, TyX K H v t ∧ (∀ n, t = .type n → n ≠ "bytes" ∧ n ≠ "set" ∧ n ≠ "float") ∧ PySem.W.notFirst K (clsAt K m.C) t = true := by
  have ok : ∀ n : String, n ∈ ["NoneType", "bool", "int", "str", "list", "tuple", "dict"] → ∀ n', Value.type n = .type n' → n' ≠ "bytes" ∧ n' ≠ "set" ∧ n' ≠ "float" := fun n hn n' e => by
    cases e
    simp only [List.mem_cons, List.not_mem_nil, or_false] at hn
    rcases hn with rfl | rfl | rfl | rfl | rfl | rfl | rfl <;> decide
  have nf : ∀ t, PySem.W.subIn K t (.ref (clsAt K m.C)) = some false → PySem.W.notFirst K (clsAt K m.C) t = true := fun t h => by
    unfold PySem.W.notFirst
    rw [h]
    simp
  have rt := Rep.top r
  cases d with
  | non => rw [rt.non]; exact ⟨_, .base .non, ok _ (by simp), nf _ NF.n⟩
  | bl b => rw [rt.bl]; exact ⟨_, .base (.bl b), ok _ (by simp), nf _ NF.b⟩
  | int i => rw [rt.int]; exact ⟨_, .base (.int i), ok _ (by simp), nf _ NF.i⟩
  | str i => rw [rt.str]; exact ⟨_, .base (.str i), ok _ (by simp), nf _ NF.s⟩
  | lst ds =>
    obtain ⟨a, xs, rfl, h, _⟩ := rt
    refine ⟨.type "list", ?_, ok _ (by simp), nf _ NF.l⟩
    rcases h with (h | ⟨o, h⟩) | ⟨o, its, n, h, hc, _⟩
    · exact .base (.lst h)
    · exact .base (.frz h)
    · exact .kList h hc
  | tup ds =>
    obtain ⟨a, xs, rfl, h, _⟩ := rt
    refine ⟨.type "tuple", ?_, ok _ (by simp), nf _ NF.t⟩
    rcases h with h | ⟨o, h⟩
    · exact .base (.tup h)
    · exact .fTuple h
  | obj C ns ds =>
    have hC : C = m.C := of_decide_eq_true k
    subst hC
    unfold Rep at r
    obtain ⟨a, dx, xs, rfl, _, h, _⟩ := r
    refine ⟨_, .base (.ins h IC.cl IC.ha IC.hn IC.ht IC.hm), fun n h => (nomatch h), ?_⟩
    unfold PySem.W.notFirst
    simp
  | raw w => cases k
  | fn x => cases k
  | dct =>
    unfold Rep at r
    obtain ⟨a, rfl, _, h⟩ := r
    exact ⟨_, .base (.dK h), ok _ (by simp), nf _ NF.d⟩
theorem oeq_read {K : PySem.W.Frag} {j : Nat} {m : Mt} {neg : Bool} {a b : IR} (hj : G.mts[j]? = some m) (IC : IsC K m.C) (NF : NFo K m.C) {σ : L2.St} {H : Hp} {Q : VK} (q : tI G W K (.oeq neg j a b) σ H Q) : tOp (rOq K (clsAt K m.C) m.n m.sem neg) (tI G W K a) (tI G W K b) σ H Q := by
  obtain ⟨H0, M0, A, env, E, q⟩ := q
  rw [evq_oeq] at q
  refine ⟨H0, M0, A, env, E, (Sat.bind q).mono fun o e1 H1 _ s1 u1 E1 h1 x hx => ?_⟩
  refine ⟨H0, M0, A, e1, E1, (Sat.bind h1).mono fun o2 e2 H2 _ s2 u2 E2 h2 y hy => ?_⟩
  rw [hj] at h2
  have hx2 := hx.hold E1.aM s2 u2
  cases o with
  | pl i => exact h2.elim
  | val d =>
    cases o2 with
    | pl i => cases d <;> exact h2.elim
    | val d2 =>
      cases d with
      | obj C ns ds =>
        have h2 : Sat K H0 M0 A W (if C = m.C ∧ m.n = 2 ∧ okD m.C d2 = true then (match m.sem [.obj C ns ds, d2] with
            | .ok (.bl k) _ => R.ok (.val (.bl (neg ^^ k))) e2
            | _ => .bad) else .bad) e2 σ H2 (fun o e1 H1 => ∀ v, OpdR K M0 e1 σ H1 o v → Q v H1) := h2
        by_cases hc : C = m.C ∧ m.n = 2 ∧ okD m.C d2 = true
        · rw [if_pos hc] at h2
          obtain ⟨hC, hn, hk⟩ := hc
          have rx : Rep K H2 (MM M0 e2 σ) (.obj C ns ds) x := hx2
          have ry : Rep K H2 (MM M0 e2 σ) d2 y := hy
          have rx1 := rx
          unfold Rep at rx1
          obtain ⟨a1, dx, xs, rfl, _, g1, _⟩ := rx1
          obtain ⟨t, ty, hbt, nf⟩ := type_of IC NF ry hk
          refine ⟨a1, dx, _, t, rfl, by rw [← hC]; exact g1, ty, hbt, nf, fun E => ⟨by rw [hn]; rfl, MM M0 e2 σ, [.obj C ns ds, d2], E2.mok, ⟨rfl, fun i d v h3 h4 => ⟨fun _ => ?_, fun z => nomatch z⟩⟩, ?_⟩⟩
          · obtain ⟨v', w1, w2⟩ := (RepL.cons rx (RepL.cons ry RepL.nil)).get h3
            rw [h4] at w1; cases w1
            exact w2
          · cases e : m.sem [.obj C ns ds, d2] with
            | bad => rw [e] at h2; exact h2.elim
            | exc C f d out => rw [e] at h2; exact h2.elim
            | ok d out =>
              rw [e] at h2
              cases d <;> first | exact h2.elim | skip
              rename_i kb
              intro v H' st _ rv
              have hv : v = .bl kb := by unfold Rep at rv; exact rv
              have st' : Stp NoA H2 H' := st.weak fun a ⟨i, z, _⟩ => nomatch z
              have rb : OpdR K M0 e2 σ H' (.val (.bl (neg ^^ kb))) (.bl (neg ^^ kb)) := rep_bl (K := K) (H := H') (M := MM M0 e2 σ) (neg ^^ kb)
              exact ⟨kb, hv, h2 H' st'.no Sub.refl (E2.keep st') _ rb⟩
        · rw [if_neg hc] at h2; exact h2.elim
      | _ => exact h2.elim
theorem oeq_bl {neg : Bool} {j : Nat} {a b : IR} {env e1 : Env} {o : Opd} (h : ev G (.oeq neg j a b) env = .ok o e1) : ∃ k, o = .val (.bl k) := by
  rw [evq_oeq] at h
  cases h1 : ev G a env with
  | bad => rw [h1] at h; cases h
  | exc C f d e => rw [h1] at h; cases h
  | ok x e2 =>
    rw [h1, R.bind_ok] at h
    cases h2 : ev G b e2 with
    | bad => rw [h2] at h; cases h
    | exc C f d e => rw [h2] at h; cases h
    | ok y e3 =>
      rw [h2, R.bind_ok] at h
      split at h
      · split at h
        · split at h
          · cases h; exact ⟨_, rfl⟩
          · cases h
        · cases h
      · cases h
theorem e_oeq {k j : Nat} {m : Mt} {a b : Expr} {a' b' : IR} {pos : Pos} (F : MtF X.prog X.w X.K X.mg X.base k m) (hn : m.name = "__eq__") (IC : IsC X.K m.C) (NF : NFo X.K m.C) (hj : G.mts[j]? = some m) (hr : Room k X.A) (tk : Takes X W) (ha : PE X a (tI G W X.K a')) (hb : PE X b (tI G W X.K b'))
    (hm : behindInMarks .Eq b = false) : PE X (.Compare a [.Eq] [b] pos) (tI G W X.K (.oeq false j a' b')) := PE.by_ (pe_cmpR (op_oeq F hn hr tk) ha hb hm) fun σ H Q q => oeq_read hj IC NF q
theorem t_oeq {k j : Nat} {m : Mt} {a b : Expr} {a' b' : IR} {pos : Pos} (F : MtF X.prog X.w X.K X.mg X.base k m) (hn : m.name = "__eq__") (IC : IsC X.K m.C) (NF : NFo X.K m.C) (hj : G.mts[j]? = some m) (hr : Room k X.A) (tk : Takes X W) (ha : PE X a (tI G W X.K a')) (hb : PE X b (tI G W X.K b'))
    (hm : behindInMarks .Eq b = false) : PT X (.Compare a [.Eq] [b] pos) (tIt G W X.K (.oeq false j a' b')) := PT.by_ (pt_cmpR (op_oeq F hn hr tk) ha hb hm) fun σ H Q q => oeq_read hj IC NF (tru_val (fun env o e1 h => oeq_bl h) q)
theorem x_oeq {neg : Bool} {j : Nat} {a b : IR} {E E1 E2 : Env} {m : Mt} {C : Str} {ns : List Str} {ds out : List D} {d : D} {z : Bool} (hm : G.mts[j]? = some m) (h : ev G a E = .ok (.val (.obj C ns ds)) E1) (h2 : ev G b E1 = .ok (.val d) E2) (hc : C = m.C ∧ m.n = 2 ∧ okD m.C d = true) (hs : m.sem [.obj C ns ds, d] = .ok (.bl z) out) : ev G (.oeq neg j a b) E = .ok (.val (.bl (neg ^^ z))) E2 := by
  rw [evq_oeq, h]
  show ((ev G b E1).bind _) = _
  rw [h2, hm]
  show (if C = m.C ∧ m.n = 2 ∧ okD m.C d = true then (match m.sem [.obj C ns ds, d] with
      | .ok (.bl k) _ => R.ok (Opd.val (.bl (neg ^^ k))) E2
      | _ => .bad) else .bad) = _
  rw [if_pos hc, hs]
theorem e_ocallP {k j : Nat} {m : Mt} {fe e : Expr} {es : List Expr} {o' : IR} {is : List IR} {pos : Pos} (F : @MtF _ ⟨False⟩ X.prog X.w X.K X.mg X.base k m) (hn : m.name = "__call__") (fi : CallFn X.K (clsAt X.K m.C)) (hj : G.mts[j]? = some m) (hr : L2.Room k X.A) (tk : Takes X W) (ho : PE X fe (tI G W X.K o')) (ha : PA X (e :: es) (tIs G W X.K is)) (h1 : (e :: es).any starB = false)
    (ht : eval (.Call fe (e :: es) [] pos) X.env = (do callWith pos (← eval fe X.env) [] (backTo pos (starEach (e :: es) X.env)) (backToKw pos (keywordEach [] X.env)))) : PE X (.Call fe (e :: es) [] pos) (tI G W X.K (.meth j o' is)) := @e_ocall _ ⟨False⟩ X G W k j m fe e es o' is pos F hn fi hj (Room.plain hr) tk ho ha h1 ht
theorem foldl_maxI : ∀ (ns : List Int) (n : Int), (ns.foldl max n = n ∨ ns.foldl max n ∈ ns) ∧ n ≤ ns.foldl max n ∧ ∀ y, y ∈ ns → y ≤ ns.foldl max n
  | [], n => ⟨.inl rfl, Int.le_refl _, fun y h => nomatch h⟩
  | m :: ns, n => by
    obtain ⟨h1, h2, h3⟩ := foldl_maxI ns (max n m)
    rw [List.foldl_cons]
    refine ⟨?_, by omega, fun y hy => ?_⟩
    · rcases h1 with h | h
      · rw [h]
        rcases Int.le_total n m with z | z
        · rw [Int.max_eq_right z]; exact .inr List.mem_cons_self
        · rw [Int.max_eq_left z]; exact .inl rfl
      · exact .inr (List.mem_cons_of_mem _ h)
    · rcases List.mem_cons.mp hy with rfl | hy
      · omega
      · exact h3 y hy
theorem s_maxl {K : PySem.W.Frag} : CaS K (rMax K) (bltD .maxl) := by
  intro M xs H ps z Q r hM e k
  obtain ⟨d, x, rfl, rfl, rd⟩ := one_of r e rfl (fun a b c => by cases a <;> rfl)
  cases d <;> first | (cases e; done) | skip
  rename_i ds
  have e' : ((intsD ds).bind fun ns => match ns with
    | [] => none
    | n :: ns => some (D.int (ns.foldl max n))) = some z := e
  cases h : intsD ds with
  | none => rw [h] at e'; cases e'
  | some ns =>
    rw [h] at e'
    cases ns with
    | nil => cases e'
    | cons n ns =>
      cases e'
      have := intsD_of h
      subst this
      obtain ⟨a, ys, rfl, hr, rr⟩ := rd
      have := rr.ints
      subst this
      refine ⟨a, n :: ns, rfl, hr, Nat.succ_pos _, fun m hm hy => ?_⟩
      obtain ⟨f1, f2, f3⟩ := foldl_maxI ns n
      have : m = ns.foldl max n := by
        have h1 : m ≤ ns.foldl max n := by
          rcases List.mem_cons.mp hm with rfl | hm
          · exact f2
          · exact f3 m hm
        have h2 : ns.foldl max n ≤ m := by
          rcases f1 with f1 | f1
          · rw [f1]; exact hy n List.mem_cons_self
          · exact hy _ (List.mem_cons_of_mem _ f1)
        omega
      subst this
      exact k _ _ Stp.refl (rep_int _)
theorem b_maxl {a : Expr} {a' : IR} {p pos : Pos} (hc : X.calm = true) (hm : X.mg "max" = none) (hg : Gl X "max") (ha : PE X a (tI G W X.K a')) (hs : starB a = false) : PE X (.Call (.Name "max" p) [a] [] pos) (tI G W X.K (.blt .maxl [a'])) :=
  e_bltF (cr_max hc) s_maxl hg hm (by decide +kernel) (ar_cons ha ar_nil hs) (any1 hs) (by decide) (by decide)
end
end Mp
set_option maxHeartbeats 4000000
namespace Mp
/-- the told moments in order -/
def srt (ms : List (Option Nat)) : List Nat := (ms.filterMap id).mergeSort
/-- the n-th of moments, from 1 -/
def nthM (ms : List (Option Nat)) (n : Nat) : Option Nat := (srt ms)[n - 1]?
def ltM : Option Nat → Option Nat → Bool
  | none, _ => false
  | some _, none => true
  | some a, some b => decide (a < b)
/-- at most a minute -/
def atM (m : Option Nat) (y : Nat) : Prop := ∃ a, m = some a ∧ a ≤ y
instance (m : Option Nat) (y : Nat) : Decidable (atM m y) := match m with
  | none => .isFalse (by rintro ⟨a, h, _⟩; cases h)
  | some a => if h : a ≤ y then .isTrue ⟨a, rfl, h⟩ else .isFalse (by rintro ⟨b, h1, h2⟩; cases h1; exact h h2)
def leM (a b : Option Nat) : Prop := ∀ y, atM b y → atM a y
theorem leM.rfl' (a : Option Nat) : leM a a := fun _ h => h
theorem leM.tr {a b c : Option Nat} (h : leM a b) (k : leM b c) : leM a c := fun y z => h y (k y z)
theorem leM_none (a : Option Nat) : leM a none := by rintro y ⟨b, h, _⟩; cases h
theorem leM_some {a b : Nat} (h : a ≤ b) : leM (some a) (some b) := by
  rintro y ⟨c, e, k⟩; cases e; exact ⟨a, rfl, Nat.le_trans h k⟩
theorem leM_of_lt {a b : Option Nat} (h : ltM b a = false) : leM a b := by
  cases b with
  | none => exact leM_none a
  | some b => cases a with
    | none => cases h
    | some a => exact leM_some (by have := of_decide_eq_false h; omega)
inductive LeL : List (Option Nat) → List (Option Nat) → Prop where
  | nil : LeL [] []
  | cons {a b as bs} : leM a b → LeL as bs → LeL (a :: as) (b :: bs)
theorem LeL.rfl' : ∀ l, LeL l l
  | [] => .nil
  | a :: l => .cons (leM.rfl' a) (LeL.rfl' l)
theorem LeL.len {as bs} (h : LeL as bs) : as.length = bs.length := by
  induction h with
  | nil => rfl
  | cons _ _ ih => simp [ih]
abbrev Row := List (Option Nat × Option Nat)
inductive RowLe : Row → Row → Prop where
  | nil : RowLe [] []
  | cons {p q r s} : leM p.1 q.1 → leM p.2 q.2 → RowLe r s → RowLe (p :: r) (q :: s)
theorem RowLe.len {r s} (h : RowLe r s) : r.length = s.length := by
  induction h with
  | nil => rfl
  | cons _ _ _ ih => simp [ih]
theorem RowLe.snd {r s} (h : RowLe r s) : LeL (r.map (·.2)) (s.map (·.2)) := by
  induction h with
  | nil => exact .nil
  | cons _ h _ ih => exact .cons h ih
theorem RowLe.app {r s p q} (h : RowLe r s) (h1 : leM p.1 q.1) (h2 : leM p.2 q.2) : RowLe (r ++ [p]) (s ++ [q]) := by
  induction h with
  | nil => exact .cons h1 h2 .nil
  | cons a b _ ih => exact .cons a b ih
theorem RowLe.last {r s} (h : RowLe r s) : (r = [] ∧ s = []) ∨ ∃ p q, r.getLast? = some p ∧ s.getLast? = some q ∧ leM p.1 q.1 ∧ leM p.2 q.2 := by
  induction h with
  | nil => exact .inl ⟨rfl, rfl⟩
  | @cons p q r s a b h ih =>
    refine .inr ?_
    rcases ih with ⟨rfl, rfl⟩ | ⟨p', q', e1, e2, k⟩
    · exact ⟨p, q, rfl, rfl, a, b⟩
    · refine ⟨p', q', ?_, ?_, k⟩
      · rw [List.getLast?_cons, e1]; rfl
      · rw [List.getLast?_cons, e2]; rfl
inductive LeP : List (Option Nat × Nat) → List (Option Nat × Nat) → Prop where
  | nil : LeP [] []
  | cons {p q r s} : leM p.1 q.1 → p.2 ≤ q.2 → LeP r s → LeP (p :: r) (q :: s)
theorem LeP.zip : ∀ {as bs} (_ : LeL as bs) {ns ms : List Nat} (_ : ns.length = ms.length) (_ : ∀ (i : Nat) (a b : Nat), ns[i]? = some a → ms[i]? = some b → a ≤ b), LeP (as.zip ns) (bs.zip ms)
  | _, _, .nil, _, _, _, _ => .nil
  | _, _, .cons _ _, [], [], _, _ => .nil
  | _, _, .cons h1 h2, n :: ns, m :: ms, hl, h => .cons h1 (h 0 n m rfl rfl) (LeP.zip h2 (by simpa using hl) fun i a b x y => h (i + 1) a b x y)
  | _, _, .cons _ _, [], _ :: _, hl, _ => by cases hl
  | _, _, .cons _ _, _ :: _, [], hl, _ => by cases hl
def lesM (a b : Option Nat) : Option Nat := if ltM b a = true then b else a
theorem LeL.get {as bs} (h : LeL as bs) : ∀ p : Nat, leM ((as[p]?).getD none) ((bs[p]?).getD none) := by
  induction h with
  | nil => exact fun p => leM.rfl' _
  | cons h1 h2 ih => intro p; cases p with
    | zero => exact h1
    | succ p => exact ih p
end Mp
set_option maxHeartbeats 4000000
namespace Mp
def insN (x : Nat) : List Nat → List Nat
  | [] => [x]
  | y :: ys => if x < y then x :: y :: ys else if x = y then y :: ys else y :: insN x ys
def setN (ns : List Nat) : List Nat := ns.foldr insN []
theorem insN_mem (x k : Nat) : ∀ ys : List Nat, k ∈ insN x ys ↔ k = x ∨ k ∈ ys
  | [] => by simp [insN]
  | y :: ys => by
    unfold insN
    split
    · simp
    · split
      · rename_i h; subst h; simp
      · simp only [List.mem_cons, insN_mem x k ys]
        exact ⟨fun h => by rcases h with h | h | h <;> simp [h], fun h => by rcases h with h | h | h <;> simp [h]⟩
theorem insN_srt (x : Nat) : ∀ ys : List Nat, ys.Pairwise (· < ·) → (insN x ys).Pairwise (· < ·)
  | [], _ => by simp [insN]
  | y :: ys, h => by
    have h' := List.pairwise_cons.mp h
    unfold insN
    split
    · rename_i hx
      refine List.pairwise_cons.mpr ⟨fun z hz => ?_, h⟩
      rcases List.mem_cons.mp hz with rfl | hz
      · exact hx
      · exact Nat.lt_trans hx (h'.1 z hz)
    · split
      · exact h
      · refine List.pairwise_cons.mpr ⟨fun z hz => ?_, insN_srt x ys h'.2⟩
        rcases (insN_mem x z ys).mp hz with rfl | hz
        · omega
        · exact h'.1 z hz
theorem setN_mem (k : Nat) : ∀ ns : List Nat, k ∈ setN ns ↔ k ∈ ns
  | [] => by simp [setN]
  | n :: ns => by
    show k ∈ insN n (setN ns) ↔ _
    rw [insN_mem, setN_mem k ns]; simp
theorem setN_srt : ∀ ns : List Nat, (setN ns).Pairwise (· < ·)
  | [] => List.Pairwise.nil
  | n :: ns => insN_srt n _ (setN_srt ns)
end Mp
set_option maxHeartbeats 4000000
namespace Mp
structure Rw where
  s : Nat
  v : Option Nat
  g : Bool
  deriving DecidableEq
/-- what a row gives for a minute -/
def giv (r : Rw) (m : Nat) : Option Nat := match r.v with
  | none => none
  | some v => some (if r.g then v + m - r.s else v)
/-- what rows give: the last row that has begun -/
def val : List Rw → Nat → Option Nat
  | [], _ => none
  | [r], m => giv r m
  | r :: q :: R, m => if q.s ≤ m then val (q :: R) m else giv r m
structure Good (f : Nat → Option Nat) : Prop where
  mono : ∀ a b, a ≤ b → leM (f a) (f b)
  up : ∀ m y, atM (f m) y → m ≤ y
abbrev StR (R : List Rw) : Prop := R.Pairwise fun a b => a.s < b.s
structure RepF (R : List Rw) (f : Nat → Option Nat) : Prop where
  st : StR R
  z : R.head?.map (·.s) = some 0
  al : ∀ r, r ∈ R → r.v = none → r.g = false
  eq : ∀ m, val R m = f m
theorem val_cons {r q : Rw} {R : List Rw} {m : Nat} : val (r :: q :: R) m = if q.s ≤ m then val (q :: R) m else giv r m := rfl
theorem val_app_lo : ∀ (A : List Rw) (b : Rw) (B : List Rw) (m : Nat), A ≠ [] → m < b.s → val (A ++ b :: B) m = val A m
  | [], b, B, m, h, _ => absurd rfl h
  | [a], b, B, m, _, hm => by
    show (if b.s ≤ m then val (b :: B) m else giv a m) = giv a m
    rw [if_neg (by omega)]
  | a :: a' :: A, b, B, m, _, hm => by
    show (if a'.s ≤ m then val (a' :: (A ++ b :: B)) m else giv a m) = (if a'.s ≤ m then val (a' :: A) m else giv a m)
    have := val_app_lo (a' :: A) b B m (by simp) hm
    rw [show a' :: (A ++ b :: B) = (a' :: A) ++ b :: B from rfl, this]
theorem val_app_hi : ∀ (A : List Rw) (b : Rw) (B : List Rw) (m : Nat), StR (A ++ b :: B) → b.s ≤ m → val (A ++ b :: B) m = val (b :: B) m
  | [], b, B, m, _, _ => rfl
  | [a], b, B, m, _, hm => by
    show (if b.s ≤ m then val (b :: B) m else giv a m) = _
    rw [if_pos hm]
  | a :: a' :: A, b, B, m, h, hm => by
    have h' := List.pairwise_cons.mp h
    have h2 := List.pairwise_cons.mp h'.2
    have lt : a'.s < b.s := h2.1 b (by simp)
    show (if a'.s ≤ m then val ((a' :: A) ++ b :: B) m else giv a m) = _
    rw [if_pos (by omega)]
    exact val_app_hi (a' :: A) b B m h'.2 hm
/-- a row that stands gives at its own start, and up to the next one's -/
theorem val_at : ∀ (A : List Rw) (r : Rw) (B : List Rw) (m : Nat), StR (A ++ r :: B) → r.s ≤ m → (∀ q, B.head? = some q → m < q.s) → val (A ++ r :: B) m = giv r m
  | A, r, [], m, h, hm, _ => by rw [val_app_hi A r [] m h hm]; rfl
  | A, r, q :: B, m, h, hm, hq => by
    rw [val_app_hi A r (q :: B) m h hm, val_cons, if_neg (by have := hq q rfl; omega)]
theorem giv_start {r : Rw} : giv r r.s = r.v := by
  unfold giv
  cases r.v with
  | none => rfl
  | some v => dsimp only; split <;> simp
theorem giv_none {r : Rw} {m : Nat} : giv r m = none ↔ r.v = none := by
  unfold giv
  cases r.v with
  | none => simp
  | some v => simp
def wid (r : Rw) (m : Nat) (x : Option Nat) : Option Rw :=
  if giv r m = x then some r else match r.v with
    | none => none
    | some v => if m = r.s + 1 ∧ x = some (v + 1) then some ⟨r.s, some v, true⟩ else none
/-- the rows so far, the last one first -/
def tell (acc : List Rw) (m : Nat) (x : Option Nat) : List Rw := match acc with
  | [] => [⟨m, x, false⟩]
  | r :: a => match wid r m x with
    | some w => w :: a
    | none => ⟨m, x, false⟩ :: r :: a
def minsM (s : Nat) (e : Option Nat) : List Nat := match e with
  | none => List.range' s 3
  | some e => List.range' s (min e (s + 3) - s)
def toldRow (acc : List Rw) (r : Rw) (e : Option Nat) : List Rw := (minsM r.s e).foldl (fun acc m => tell acc m (giv r m)) acc
def toldGo : List Rw → List Rw → List Rw
  | acc, [] => acc
  | acc, [r] => toldRow acc r none
  | acc, r :: q :: R => toldGo (toldRow acc r (some q.s)) (q :: R)
def toldM (R : List Rw) : List Rw := (toldGo [] R).reverse
/-- the rows so far tell f below n -/
structure Agr (acc : List Rw) (f : Nat → Option Nat) (n : Nat) : Prop where
  st : StR acc.reverse
  z : acc.reverse.head?.map (·.s) = some 0
  al : ∀ r, r ∈ acc → r.v = none → r.g = false
  hd : ∀ r, acc.head? = some r → r.s < n
  eq : ∀ m, m < n → val acc.reverse m = f m
theorem Agr.ne {acc : List Rw} {f : Nat → Option Nat} {n : Nat} (h : Agr acc f n) : ∃ r a, acc = r :: a := by
  cases acc with
  | nil => have := h.z; simp at this
  | cons r a => exact ⟨r, a, rfl⟩
/-- one minute more -/
theorem Agr.tell {acc : List Rw} {f : Nat → Option Nat} {n : Nat} (h : Agr acc f n) : Agr (tell acc n (f n)) f (n + 1) := by
  obtain ⟨r, a, rfl⟩ := h.ne
  have hr := h.hd r rfl
  have hst := h.st
  rw [List.reverse_cons] at hst
  have last : ∀ m, r.s ≤ m → val ((r :: a).reverse) m = giv r m := fun m hm => by
    rw [List.reverse_cons]
    exact val_at a.reverse r [] m hst hm (fun q hq => nomatch hq)
  unfold Mp.tell
  dsimp only
  unfold wid
  by_cases h1 : giv r n = f n
  · rw [if_pos h1]
    exact ⟨h.st, h.z, h.al, fun q hq => by cases hq; omega, fun m hm => by
      by_cases hmn : m = n
      · rw [hmn, last n (by omega)]; exact h1
      · exact h.eq m (by omega)⟩
  · rw [if_neg h1]
    have new : Agr (⟨n, f n, false⟩ :: r :: a) f (n + 1) := by
      have e : (⟨n, f n, false⟩ :: r :: a : List Rw).reverse = (r :: a).reverse ++ [⟨n, f n, false⟩] := List.reverse_cons
      refine ⟨?_, ?_, fun q hq hv => ?_, fun q hq => by cases hq; exact Nat.lt_succ_self n, fun m hm => ?_⟩
      · rw [e]
        refine List.pairwise_append.mpr ⟨h.st, by simp, fun p hp q hq => ?_⟩
        rw [List.mem_singleton.mp hq]
        have hp' : p ∈ a.reverse ++ [r] := by rw [← List.reverse_cons]; exact hp
        rcases List.mem_append.mp hp' with hp' | hp'
        · have := (List.pairwise_append.mp hst).2.2 p hp' r (by simp)
          show p.s < n; omega
        · rw [List.mem_singleton.mp hp']; exact hr
      · rw [e]
        have hz := h.z
        cases hq : (r :: a).reverse with
        | nil => rw [hq] at hz; cases hz
        | cons p t => rw [hq] at hz; exact hz
      · rcases List.mem_cons.mp hq with rfl | hq
        · rfl
        · exact h.al q hq hv
      · rw [e]
        by_cases hmn : m = n
        · have s2 : StR ((r :: a).reverse ++ [⟨n, f n, false⟩]) := by
            refine List.pairwise_append.mpr ⟨h.st, by simp, fun p hp q hq => ?_⟩
            rw [List.mem_singleton.mp hq]
            have hp' : p ∈ a.reverse ++ [r] := by rw [← List.reverse_cons]; exact hp
            rcases List.mem_append.mp hp' with hp' | hp'
            · have := (List.pairwise_append.mp hst).2.2 p hp' r (by simp)
              show p.s < n; omega
            · rw [List.mem_singleton.mp hp']; exact hr
          rw [hmn, val_app_hi _ _ [] n s2 (Nat.le_refl n)]
          show giv ⟨n, f n, false⟩ n = f n
          have := giv_start (r := ⟨n, f n, false⟩)
          exact this
        · rw [val_app_lo _ _ _ _ (by simp) (by show m < n; omega)]
          exact h.eq m (by omega)
    cases hv : r.v with
    | none => exact new
    | some v =>
      dsimp only
      by_cases h2 : n = r.s + 1 ∧ f n = some (v + 1)
      · rw [if_pos h2]
        have hst2 : StR (a.reverse ++ [⟨r.s, some v, true⟩]) := by
          obtain ⟨p1, p2, p3⟩ := List.pairwise_append.mp hst
          refine List.pairwise_append.mpr ⟨p1, by simp, fun p hp q hq => ?_⟩
          rw [List.mem_singleton.mp hq]
          exact p3 p hp r (by simp)
        refine ⟨by rw [List.reverse_cons]; exact hst2, ?_, fun q hq hqv => ?_, fun q hq => by cases hq; show r.s < n + 1; omega, fun m hm => ?_⟩
        · have hz := h.z
          rw [List.reverse_cons] at hz ⊢
          cases hq : a.reverse with
          | nil => rw [hq] at hz; exact hz
          | cons p t => rw [hq] at hz; exact hz
        · rcases List.mem_cons.mp hq with rfl | hq
          · cases hqv
          · exact h.al q (List.mem_cons_of_mem _ hq) hqv
        · rw [List.reverse_cons]
          by_cases hm1 : r.s ≤ m
          · rw [val_at a.reverse ⟨r.s, some v, true⟩ [] m hst2 hm1 (fun q hq => nomatch hq)]
            have : m = r.s ∨ m = n := by omega
            rcases this with e | e
            · have h3 := h.eq m (by omega)
              rw [last m hm1, e, giv_start, hv] at h3
              rw [e, ← h3]
              show some (v + r.s - r.s) = some v
              rw [Nat.add_sub_cancel]
            · rw [e, h2.2]
              show some (v + n - r.s) = some (v + 1)
              congr 1; omega
          · have h3 := h.eq m (by omega)
            rw [List.reverse_cons] at h3
            cases ha : a.reverse with
            | nil =>
              have hz := h.z
              rw [List.reverse_cons, ha] at hz
              have : r.s = 0 := Option.some.inj hz
              omega
            | cons p t =>
              rw [ha] at h3 hst hst2
              rw [val_app_lo (p :: t) _ [] m (by simp) (by show m < r.s; omega)]
              rw [val_app_lo (p :: t) r [] m (by simp) (by omega)] at h3
              exact h3
      · rw [if_neg h2]; exact new
end Mp
set_option maxHeartbeats 4000000
namespace Mp
theorem Agr.head_giv {acc : List Rw} {f : Nat → Option Nat} {n : Nat} {h : Rw} (A : Agr acc f (n + 1)) (hh : acc.head? = some h) : h.s ≤ n ∧ giv h n = f n := by
  obtain ⟨r, a, rfl⟩ := A.ne
  cases hh
  have hr := A.hd _ rfl
  have hst := A.st
  rw [List.reverse_cons] at hst
  refine ⟨by omega, ?_⟩
  rw [← A.eq n (Nat.lt_succ_self n), List.reverse_cons]
  exact (val_at a.reverse _ [] n hst (by omega) (fun q hq => nomatch hq)).symm
theorem Agr.far {acc : List Rw} {f : Nat → Option Nat} {n n' : Nat} (A : Agr acc f n) (hn : n ≤ n') (h : ∀ r, acc.head? = some r → ∀ m, n ≤ m → m < n' → giv r m = f m) : Agr acc f n' := by
  obtain ⟨r, a, rfl⟩ := A.ne
  have hr := A.hd r rfl
  have hst := A.st
  rw [List.reverse_cons] at hst
  refine ⟨A.st, A.z, A.al, fun q hq => by have := A.hd q hq; omega, fun m hm => ?_⟩
  by_cases hmn : m < n
  · exact A.eq m hmn
  · rw [List.reverse_cons, val_at a.reverse r [] m hst (by omega) (fun q hq => nomatch hq)]
    exact h r rfl m (by omega) hm
def Agr0 (acc : List Rw) (f : Nat → Option Nat) (n : Nat) : Prop := (acc = [] ∧ n = 0) ∨ Agr acc f n
theorem Agr0.tell {acc : List Rw} {f : Nat → Option Nat} {n : Nat} (h : Agr0 acc f n) : Agr (Mp.tell acc n (f n)) f (n + 1) := by
  rcases h with ⟨rfl, rfl⟩ | h
  · refine ⟨by simp [Mp.tell], rfl, fun q hq _ => ?_, fun q hq => by cases hq; exact Nat.lt_succ_self 0, fun m hm => ?_⟩
    · rw [List.mem_singleton.mp hq]
    · have : m = 0 := by omega
      subst this
      exact giv_start (r := ⟨0, f 0, false⟩)
  · exact h.tell
def nh (r : Rw) (n : Nat) (x : Option Nat) : Rw := match wid r n x with
  | some w => w
  | none => ⟨n, x, false⟩
theorem tell_head {acc : List Rw} {r : Rw} (h : acc.head? = some r) (n : Nat) (x : Option Nat) : (tell acc n x).head? = some (nh r n x) := by
  cases acc with
  | nil => cases h
  | cons q a =>
    cases h
    unfold tell nh
    dsimp only
    cases wid r n x <;> rfl
theorem nh_same {r : Rw} {n : Nat} {x : Option Nat} (h : giv r n = x) : nh r n x = r := by unfold nh wid; rw [if_pos h]
theorem nh_wide {s v n : Nat} {g : Bool} (h : ¬ giv ⟨s, some v, g⟩ n = some (v + 1)) (hn : n = s + 1) : nh ⟨s, some v, g⟩ n (some (v + 1)) = ⟨s, some v, true⟩ := by
  unfold nh wid; rw [if_neg h]
  dsimp only
  rw [if_pos ⟨hn, rfl⟩]
theorem nh_new {s v n : Nat} {g : Bool} {x : Option Nat} (h : ¬ giv ⟨s, some v, g⟩ n = x) (hn : ¬ (n = s + 1 ∧ x = some (v + 1))) : nh ⟨s, some v, g⟩ n x = ⟨n, x, false⟩ := by
  unfold nh wid; rw [if_neg h]
  dsimp only
  rw [if_neg hn]
theorem giv_t {s v m : Nat} : giv ⟨s, some v, true⟩ m = some (v + m - s) := rfl
theorem giv_f {s v m : Nat} : giv ⟨s, some v, false⟩ m = some v := rfl
theorem giv_n {s m : Nat} {g : Bool} : giv ⟨s, none, g⟩ m = none := rfl
/-- three minutes of a row foretell it -/
theorem three {r h : Rw} (h1 : giv h r.s = giv r r.s) (hs : h.s ≤ r.s) : ∀ m, r.s + 2 ≤ m → giv (nh (nh h (r.s + 1) (giv r (r.s + 1))) (r.s + 2) (giv r (r.s + 2))) m = giv r m := by
  intro m hm
  obtain ⟨s, v, g⟩ := r
  obtain ⟨s1, v1, g1⟩ := h
  have hs : s1 ≤ s := hs
  have hm : s + 2 ≤ m := hm
  show giv (nh (nh ⟨s1, v1, g1⟩ (s + 1) (giv ⟨s, v, g⟩ (s + 1))) (s + 2) (giv ⟨s, v, g⟩ (s + 2))) m = giv ⟨s, v, g⟩ m
  have h0 : giv ⟨s1, v1, g1⟩ s = v := h1.trans (giv_start (r := ⟨s, v, g⟩))
  clear h1
  have h1 := h0
  clear h0
  cases v with
  | none =>
    have e : v1 = none := giv_none.mp h1
    subst e
    rw [giv_n, giv_n, nh_same giv_n, nh_same giv_n, giv_n, giv_n]
  | some v =>
    cases v1 with
    | none => rw [giv_n] at h1; cases h1
    | some v1 =>
      cases g with
      | true =>
        rw [giv_t, giv_t, giv_t]
        have e1 : v + (s + 1) - s = v + 1 := by omega
        have e2 : v + (s + 2) - s = v + 2 := by omega
        rw [e1, e2]
        cases g1 with
        | true =>
          rw [giv_t] at h1
          have h1 := Option.some.inj h1
          have n1 : nh ⟨s1, some v1, true⟩ (s + 1) (some (v + 1)) = ⟨s1, some v1, true⟩ := nh_same (by rw [giv_t]; congr 1; omega)
          have n2 : nh ⟨s1, some v1, true⟩ (s + 2) (some (v + 2)) = ⟨s1, some v1, true⟩ := nh_same (by rw [giv_t]; congr 1; omega)
          rw [n1, n2, giv_t]
          congr 1; omega
        | false =>
          rw [giv_f] at h1
          have h1 := Option.some.inj h1
          subst h1
          have ne : ¬ giv ⟨s1, some v1, false⟩ (s + 1) = some (v1 + 1) := by rw [giv_f]; simp
          by_cases hq : s1 = s
          · rw [nh_wide ne (by omega)]
            have n2 : nh ⟨s1, some v1, true⟩ (s + 2) (some (v1 + 2)) = ⟨s1, some v1, true⟩ := nh_same (by rw [giv_t]; congr 1; omega)
            rw [n2, giv_t, hq]
          · rw [nh_new ne (by omega)]
            have ne2 : ¬ giv ⟨s + 1, some (v1 + 1), false⟩ (s + 2) = some (v1 + 1 + 1) := by rw [giv_f]; simp
            rw [show v1 + 2 = v1 + 1 + 1 from rfl, nh_wide ne2 rfl, giv_t]
            congr 1; omega
      | false =>
        rw [giv_f, giv_f, giv_f]
        cases g1 with
        | true =>
          rw [giv_t] at h1
          have h1 := Option.some.inj h1
          have ne : ¬ giv ⟨s1, some v1, true⟩ (s + 1) = some v := by
            rw [giv_t]; intro z; have := Option.some.inj z; omega
          rw [nh_new ne (fun z => by have := Option.some.inj z.2; omega), nh_same giv_f, giv_f]
        | false =>
          rw [giv_f] at h1
          have h1 := Option.some.inj h1
          subst h1
          rw [nh_same giv_f, nh_same giv_f, giv_f]
theorem tell_on {f : Nat → Option Nat} (r : Rw) : ∀ (k n : Nat) (acc : List Rw), Agr acc f n → (∀ m, n ≤ m → m < n + k → giv r m = f m) → Agr ((List.range' n k).foldl (fun acc m => tell acc m (giv r m)) acc) f (n + k)
  | 0, n, acc, h, _ => h
  | k + 1, n, acc, h, he => by
    rw [List.range'_succ, List.foldl_cons, he n (Nat.le_refl n) (by omega)]
    have := tell_on r k (n + 1) (tell acc n (f n)) h.tell (fun m h1 h2 => he m (by omega) (by omega))
    rw [show n + (k + 1) = n + 1 + k by omega]
    exact this
/-- a row told, up to its end -/
theorem row_to {acc : List Rw} {f : Nat → Option Nat} {r : Rw} {e : Nat} (h : Agr0 acc f r.s) (he : r.s < e) (hf : ∀ m, r.s ≤ m → m < e → giv r m = f m) : Agr (toldRow acc r (some e)) f e := by
  unfold toldRow minsM
  dsimp only
  obtain ⟨k, hk⟩ : ∃ k, min e (r.s + 3) - r.s = k + 1 := ⟨min e (r.s + 3) - r.s - 1, by omega⟩
  rw [hk, List.range'_succ, List.foldl_cons, hf r.s (Nat.le_refl _) he]
  have A1 := h.tell
  by_cases hs : e ≤ r.s + 3
  · have := tell_on r k (r.s + 1) _ A1 (fun m h1 h2 => hf m (by omega) (by omega))
    rw [show r.s + 1 + k = e by omega] at this
    exact this
  · have hk2 : k = 2 := by omega
    subst hk2
    have A3 := tell_on r 2 (r.s + 1) _ A1 (fun m h1 h2 => hf m (by omega) (by omega))
    refine A3.far (by omega) fun q hq m h1 h2 => ?_
    obtain ⟨r1, a1, e1⟩ := A1.ne
    obtain ⟨s1, g1⟩ := A1.head_giv (h := r1) (by rw [e1]; rfl)
    have hh : (tell acc r.s (f r.s)).head? = some r1 := by rw [e1]; rfl
    have t1 := tell_head hh (r.s + 1) (giv r (r.s + 1))
    have t2 := tell_head t1 (r.s + 2) (giv r (r.s + 2))
    have hq : (tell (tell (tell acc r.s (f r.s)) (r.s + 1) (giv r (r.s + 1))) (r.s + 2) (giv r (r.s + 2))).head? = some q := hq
    rw [t2] at hq
    cases hq
    rw [three (by rw [g1, hf r.s (Nat.le_refl _) he]) s1 m (by omega)]
    exact hf m (by omega) h2
/-- the last row told -/
theorem row_end {acc : List Rw} {f : Nat → Option Nat} {r : Rw} (h : Agr0 acc f r.s) (hf : ∀ m, r.s ≤ m → giv r m = f m) : ∀ e, r.s + 3 ≤ e → Agr (toldRow acc r none) f e := by
  intro e he
  have := row_to (e := e) h (by omega) (fun m h1 _ => hf m h1)
  have e1 : toldRow acc r (some e) = toldRow acc r none := by
    unfold toldRow minsM
    dsimp only
    rw [show min e (r.s + 3) - r.s = 3 by omega]
  rw [e1] at this
  exact this
theorem told_go {f : Nat → Option Nat} : ∀ (R : List Rw) (r : Rw) (acc : List Rw), StR (r :: R) → Agr0 acc f r.s → (∀ m, r.s ≤ m → val (r :: R) m = f m) → ∃ n, ∀ e, n ≤ e → Agr (toldGo acc (r :: R)) f e
  | [], r, acc, _, h, hf => ⟨r.s + 3, row_end h hf⟩
  | q :: R, r, acc, hst, h, hf => by
    have h' := List.pairwise_cons.mp hst
    have lt : r.s < q.s := h'.1 q List.mem_cons_self
    have A := row_to (e := q.s) h lt (fun m h1 h2 => by
      have := hf m h1
      rw [val_cons, if_neg (by omega)] at this
      exact this)
    exact told_go R q _ h'.2 (.inr A) fun m hm => by
      have := hf m (by omega)
      rw [val_cons, if_pos hm] at this
      exact this
/-- the told rows tell the same -/
theorem told_rep {R : List Rw} {f : Nat → Option Nat} (h : RepF R f) : RepF (toldM R) f := by
  cases R with
  | nil => have := h.z; cases this
  | cons r R =>
    have z : r.s = 0 := Option.some.inj h.z
    obtain ⟨n, A⟩ := told_go (f := f) R r [] h.st (.inl ⟨rfl, z⟩) (fun m _ => h.eq m)
    have A0 := A n (Nat.le_refl n)
    refine ⟨A0.st, A0.z, fun q hq => A0.al q (List.mem_reverse.mp hq), fun m => (A (max n (m + 1)) (by omega)).eq m (by omega)⟩
def rightAlone (r : Rw) : Bool := match r.v with
  | none => !r.g
  | some v => decide (r.s ≤ v)
def rightBehind (r a : Rw) : Bool := decide (a.s < r.s) && (!ltM (giv a (r.s - 1)) (some (r.s - 1))) && !ltM r.v (giv a (r.s - 1))
def endsRight (r : Rw) : Bool := match r.v with
  | none => true
  | some _ => r.g
structure Checked (R : List Rw) : Prop where
  z : R.head?.map (·.s) = some 0
  al : ∀ r, r ∈ R → rightAlone r = true
  be : ∀ i a r, R[i]? = some a → R[i + 1]? = some r → rightBehind r a = true
  en : ∀ r, R.getLast? = some r → endsRight r = true
theorem split_at {R : List Rw} {i : Nat} {r : Rw} (h : R[i]? = some r) : R = R.take i ++ r :: R.drop (i + 1) := by
  have hi : i < R.length := (List.getElem?_eq_some_iff.mp h).1
  have e : R[i] = r := (List.getElem?_eq_some_iff.mp h).2
  rw [← e, List.getElem_cons_drop, List.take_append_drop]
theorem at_row {R : List Rw} {i : Nat} {r : Rw} (hst : StR R) (h : R[i]? = some r) {m : Nat} (hm : r.s ≤ m) (hq : ∀ q, R[i + 1]? = some q → m < q.s) : val R m = giv r m := by
  have e := split_at h
  rw [e] at hst
  have := val_at (R.take i) r (R.drop (i + 1)) m hst hm (fun q hq' => hq q (by rw [List.head?_drop] at hq'; exact hq'))
  rw [← e] at this
  exact this
/-- and the other way about -/
theorem checked_st {R : List Rw} (h : Checked R) : StR R := by
  refine List.pairwise_iff_getElem.mpr fun i j hi hj hij => ?_
  have step : ∀ (k : Nat) (i : Nat) (hi : i < R.length) (hj : i + 1 + k < R.length), R[i].s < R[i + 1 + k].s := by
    intro k
    induction k with
    | zero =>
      intro i hi hj
      have := h.be i R[i] R[i + 1] (List.getElem?_eq_getElem hi) (List.getElem?_eq_getElem hj)
      unfold rightBehind at this
      simp only [Bool.and_eq_true, decide_eq_true_eq] at this
      exact this.1.1
    | succ k ih =>
      intro i hi hj
      have h1 := ih i hi (by omega)
      have h2 := h.be (i + 1 + k) R[i + 1 + k] R[i + 1 + k + 1] (List.getElem?_eq_getElem (by omega)) (List.getElem?_eq_getElem (by omega))
      unfold rightBehind at h2
      simp only [Bool.and_eq_true, decide_eq_true_eq] at h2
      exact Nat.lt_trans h1 h2.1.1
  have := step (j - i - 1) i hi (by omega)
  simp only [show i + 1 + (j - i - 1) = j by omega] at this
  exact this
end Mp
set_option maxHeartbeats 4000000
namespace Mp
def ChainR : List Rw → Prop
  | [] => True
  | [r] => rightAlone r = true ∧ endsRight r = true
  | r :: q :: R => rightAlone r = true ∧ rightBehind q r = true ∧ ChainR (q :: R)
theorem chain_of : ∀ (R : List Rw), (∀ r, r ∈ R → rightAlone r = true) → (∀ i a r, R[i]? = some a → R[i + 1]? = some r → rightBehind r a = true) → (∀ r, R.getLast? = some r → endsRight r = true) → ChainR R
  | [], _, _, _ => trivial
  | [r], ha, _, he => ⟨ha r List.mem_cons_self, he r rfl⟩
  | r :: q :: R, ha, hb, he => ⟨ha r List.mem_cons_self, hb 0 r q rfl rfl, chain_of (q :: R) (fun p hp => ha p (List.mem_cons_of_mem _ hp)) (fun i a p h1 h2 => hb (i + 1) a p h1 h2) (fun p hp => he p (by rw [List.getLast?_cons_cons]; exact hp))⟩
theorem giv_mono {r : Rw} {a b : Nat} (h : a ≤ b) : leM (giv r a) (giv r b) := by
  unfold giv
  cases r.v with
  | none => exact leM.rfl' _
  | some v => dsimp only; split <;> exact leM_some (by omega)
theorem behind_lt {q r : Rw} (h : rightBehind q r = true) : r.s < q.s ∧ leM (giv r (q.s - 1)) q.v ∧ ∀ y, atM (giv r (q.s - 1)) y → q.s - 1 ≤ y := by
  unfold rightBehind at h
  simp only [Bool.and_eq_true, decide_eq_true_eq, Bool.not_eq_true'] at h
  refine ⟨h.1.1, leM_of_lt h.2, fun y hy => ?_⟩
  obtain ⟨z, e, hz⟩ := hy
  have := h.1.2
  rw [e] at this
  have := of_decide_eq_false this
  omega
theorem chain_mono : ∀ (R : List Rw) (r : Rw), ChainR (r :: R) → ∀ a b, r.s ≤ a → a ≤ b → leM (val (r :: R) a) (val (r :: R) b)
  | [], r, _, a, b, _, h => giv_mono h
  | q :: R, r, hc, a, b, ha, hab => by
    obtain ⟨_, h2, h3⟩ := hc
    obtain ⟨lt, le, _⟩ := behind_lt h2
    rw [val_cons, val_cons]
    by_cases hb : q.s ≤ b
    · rw [if_pos hb]
      by_cases hqa : q.s ≤ a
      · rw [if_pos hqa]; exact chain_mono R q h3 a b hqa hab
      · rw [if_neg hqa]
        refine (giv_mono (b := q.s - 1) (by omega)).tr (le.tr ?_)
        have := chain_mono R q h3 q.s b (Nat.le_refl _) hb
        refine leM.tr ?_ this
        have e : val (q :: R) q.s = q.v := by
          cases R with
          | nil => exact giv_start
          | cons p R =>
            rw [val_cons, if_neg (by have := (behind_lt h3.2.1).1; omega)]; exact giv_start
        rw [e]; exact leM.rfl' _
    · rw [if_neg hb, if_neg (by omega)]; exact giv_mono hab
theorem alone_up {r : Rw} (h : rightAlone r = true) (hg : r.v = none ∨ r.g = true) {m y : Nat} (hm : r.s ≤ m) (hy : atM (giv r m) y) : m ≤ y := by
  obtain ⟨z, e, hz⟩ := hy
  unfold giv at e
  unfold rightAlone at h
  cases hv : r.v with
  | none => rw [hv] at e; cases e
  | some v =>
    rw [hv] at e h
    have h := of_decide_eq_true h
    rcases hg with hg | hg
    · rw [hv] at hg; cases hg
    · rw [hg] at e
      have e := Option.some.inj e
      simp only [if_true] at e
      omega
theorem chain_up : ∀ (R : List Rw) (r : Rw), ChainR (r :: R) → ∀ m y, r.s ≤ m → atM (val (r :: R) m) y → m ≤ y
  | [], r, hc, m, y, hm, hy => by
    refine alone_up hc.1 ?_ hm hy
    have := hc.2
    unfold endsRight at this
    cases hv : r.v with
    | none => exact .inl rfl
    | some v => rw [hv] at this; exact .inr this
  | q :: R, r, hc, m, y, hm, hy => by
    obtain ⟨h1, h2, h3⟩ := hc
    obtain ⟨lt, _, up⟩ := behind_lt h2
    rw [val_cons] at hy
    by_cases hq : q.s ≤ m
    · rw [if_pos hq] at hy; exact chain_up R q h3 m y hq hy
    · rw [if_neg hq] at hy
      cases hg : r.g with
      | true => exact alone_up h1 (.inr hg) hm hy
      | false =>
        have e : giv r m = giv r (q.s - 1) := by
          unfold giv
          cases r.v with
          | none => rfl
          | some v => dsimp only; rw [hg]; rfl
        rw [e] at hy
        have := up y hy
        omega
theorem checked_good {R : List Rw} (h : Checked R) : RepF R (val R) ∧ Good (val R) := by
  have c := chain_of R h.al h.be h.en
  refine ⟨⟨checked_st h, h.z, fun r hr hv => ?_, fun _ => rfl⟩, ?_⟩
  · have := h.al r hr
    unfold rightAlone at this
    rw [hv] at this
    simpa using this
  · cases R with
    | nil => have := h.z; cases this
    | cons r R =>
      have z : r.s = 0 := Option.some.inj h.z
      exact ⟨fun a b hab => chain_mono R r c a b (by omega) hab, fun m y hy => chain_up R r c m y (by omega) hy⟩
def placeM (S : List Rw) (m : Nat) : Nat := S.countP (fun q => decide (q.s ≤ m)) - 1
/-- the place of the last row that has begun -/
theorem place_row {S : List Rw} (hst : StR S) (m : Nat) : ∀ i r, S[i]? = some r → (r.s ≤ m ↔ i < S.countP (fun q => decide (q.s ≤ m))) := by
  intro i r
  induction S generalizing i with
  | nil => intro h; cases h
  | cons a S ih =>
    have h' := List.pairwise_cons.mp hst
    intro h
    by_cases ha : a.s ≤ m
    · rw [List.countP_cons_of_pos (by simpa using ha)]
      cases i with
      | zero => cases h; exact ⟨fun _ => Nat.succ_pos _, fun _ => ha⟩
      | succ i =>
        rw [ih h'.2 i h]; omega
    · rw [List.countP_cons_of_neg (by simpa using ha)]
      have z : S.countP (fun q => decide (q.s ≤ m)) = 0 := List.countP_eq_zero.mpr fun q hq => by
        have := h'.1 q hq
        simp; omega
      rw [z]
      cases i with
      | zero => cases h; exact ⟨fun k => absurd k ha, fun k => by omega⟩
      | succ i =>
        have hm : r ∈ S := List.mem_of_getElem? h
        have := h'.1 r hm
        exact ⟨fun k => by omega, fun k => by omega⟩
theorem place_pos {S : List Rw} {f : Nat → Option Nat} (h : RepF S f) (m : Nat) : 1 ≤ S.countP (fun q => decide (q.s ≤ m)) := by
  cases S with
  | nil => have := h.z; cases this
  | cons a S =>
    have z : a.s = 0 := Option.some.inj h.z
    have := (place_row h.st m 0 a rfl).mp (by omega)
    omega
theorem place_lt {S : List Rw} {f : Nat → Option Nat} (h : RepF S f) (m : Nat) : placeM S m < S.length := by
  have h1 := place_pos h m
  have h2 : S.countP (fun q => decide (q.s ≤ m)) ≤ S.length := List.countP_le_length
  unfold placeM; omega
/-- what a map gives stands in that row -/
theorem val_place {S : List Rw} {f : Nat → Option Nat} (h : RepF S f) (m : Nat) (r : Rw) (hr : S[placeM S m]? = some r) : f m = giv r m ∧ r.s ≤ m := by
  have h1 := place_pos h m
  have le : r.s ≤ m := (place_row h.st m _ r hr).mpr (by unfold placeM; omega)
  refine ⟨?_, le⟩
  rw [← h.eq]
  refine at_row h.st hr le fun q hq => ?_
  have : ¬ q.s ≤ m := fun z => by
    have := (place_row h.st m _ q hq).mp z
    unfold placeM at this; omega
  omega
end Mp
set_option maxHeartbeats 4000000
namespace Mp
theorem chain_checked : ∀ (R : List Rw), ChainR R → (∀ r, r ∈ R → rightAlone r = true) ∧ (∀ i a r, R[i]? = some a → R[i + 1]? = some r → rightBehind r a = true) ∧ ∀ r, R.getLast? = some r → endsRight r = true
  | [], _ => ⟨fun _ h => absurd h List.not_mem_nil, fun i a r h _ => by simp at h, fun r h => by cases h⟩
  | [r], h => ⟨fun p hp => by rw [List.mem_singleton.mp hp]; exact h.1, fun i a p h1 h2 => by simp at h2, fun p hp => by cases hp; exact h.2⟩
  | r :: q :: R, h => by
    obtain ⟨h1, h2, h3⟩ := chain_checked (q :: R) h.2.2
    refine ⟨fun p hp => ?_, fun i a p g1 g2 => ?_, fun p hp => h3 p (by rw [List.getLast?_cons_cons] at hp; exact hp)⟩
    · rcases List.mem_cons.mp hp with rfl | hp
      · exact h.1
      · exact h1 p hp
    · cases i with
      | zero => cases g1; cases g2; exact h.2.1
      | succ i => exact h2 i a p g1 g2
theorem checked_of {R : List Rw} (h : ChainR R) (z : R.head?.map (·.s) = some 0) : Checked R := by
  obtain ⟨h1, h2, h3⟩ := chain_checked R h
  exact ⟨z, h1, h2, h3⟩
def SmR (B : Nat) (R : List Rw) : Prop := ∀ r, r ∈ R → r.s ≤ B
theorem tell_sm {B : Nat} {acc : List Rw} {m : Nat} {x : Option Nat} (h : SmR B acc) (hm : m ≤ B) : SmR B (tell acc m x) := by
  intro q hq
  unfold tell at hq
  cases acc with
  | nil => rw [List.mem_singleton.mp hq]; exact hm
  | cons r a =>
    dsimp only at hq
    cases hw : wid r m x with
    | none =>
      rw [hw] at hq
      rcases List.mem_cons.mp hq with rfl | hq
      · exact hm
      · exact h q hq
    | some w =>
      rw [hw] at hq
      have ws : w.s = r.s := by
        unfold wid at hw
        split at hw
        · cases hw; rfl
        · split at hw
          · cases hw
          · split at hw
            · cases hw; rfl
            · cases hw
      rcases List.mem_cons.mp hq with rfl | hq
      · rw [ws]; exact h r List.mem_cons_self
      · exact h q (List.mem_cons_of_mem _ hq)
theorem tell_len (acc : List Rw) (m : Nat) (x : Option Nat) : (tell acc m x).length ≤ acc.length + 1 := by
  unfold tell
  cases acc with
  | nil => simp
  | cons r a =>
    dsimp only
    cases wid r m x <;> simp
theorem fold_sm {B : Nat} (r : Rw) : ∀ (ms : List Nat) (acc : List Rw), SmR B acc → (∀ m, m ∈ ms → m ≤ B) → SmR B (ms.foldl (fun acc m => tell acc m (giv r m)) acc) ∧ (ms.foldl (fun acc m => tell acc m (giv r m)) acc).length ≤ acc.length + ms.length
  | [], acc, h, _ => ⟨h, by simp⟩
  | m :: ms, acc, h, hm => by
    obtain ⟨h1, h2⟩ := fold_sm r ms (tell acc m (giv r m)) (tell_sm h (hm m List.mem_cons_self)) fun k hk => hm k (List.mem_cons_of_mem _ hk)
    have := tell_len acc m (giv r m)
    exact ⟨h1, by simp only [List.foldl_cons, List.length_cons]; omega⟩
theorem mins_le (s : Nat) (e : Option Nat) : (∀ m, m ∈ minsM s e → m ≤ s + 2) ∧ (minsM s e).length ≤ 3 := by
  unfold minsM
  cases e with
  | none => exact ⟨fun m hm => by have := List.mem_range'_1.mp hm; omega, by simp⟩
  | some e => exact ⟨fun m hm => by have := List.mem_range'_1.mp hm; omega, by simp; omega⟩
theorem row_sm {B : Nat} {acc : List Rw} {r : Rw} {e : Option Nat} (h : SmR (B + 2) acc) (hr : r.s ≤ B) : SmR (B + 2) (toldRow acc r e) ∧ (toldRow acc r e).length ≤ acc.length + 3 := by
  obtain ⟨m1, m2⟩ := mins_le r.s e
  obtain ⟨h1, h2⟩ := fold_sm (B := B + 2) r (minsM r.s e) acc h fun m hm => by have := m1 m hm; omega
  exact ⟨h1, by unfold toldRow; omega⟩
theorem go_sm {B : Nat} : ∀ (R : List Rw) (acc : List Rw), SmR (B + 2) acc → SmR B R → SmR (B + 2) (toldGo acc R) ∧ (toldGo acc R).length ≤ acc.length + 3 * R.length
  | [], acc, h, _ => ⟨h, by simp [toldGo]⟩
  | [r], acc, h, hR => by
    obtain ⟨h1, h2⟩ := row_sm (e := none) h (hR r List.mem_cons_self)
    exact ⟨h1, by show (toldRow acc r none).length ≤ _; simp only [List.length_cons, List.length_nil]; omega⟩
  | r :: q :: R, acc, h, hR => by
    obtain ⟨h1, h2⟩ := row_sm (e := some q.s) h (hR r List.mem_cons_self)
    obtain ⟨h3, h4⟩ := go_sm (q :: R) (toldRow acc r (some q.s)) h1 fun p hp => hR p (List.mem_cons_of_mem _ hp)
    refine ⟨h3, ?_⟩
    show (toldGo (toldRow acc r (some q.s)) (q :: R)).length ≤ _
    simp only [List.length_cons] at h4 ⊢; omega
theorem told_sm {B : Nat} {R : List Rw} (h : SmR B R) : SmR (B + 2) (toldM R) ∧ (toldM R).length ≤ 3 * R.length := by
  obtain ⟨h1, h2⟩ := go_sm (B := B) R [] (fun _ h => absurd h List.not_mem_nil) h
  exact ⟨fun r hr => h1 r (List.mem_reverse.mp hr), by unfold toldM; rw [List.length_reverse]; simpa using h2⟩
end Mp
set_option maxHeartbeats 4000000
namespace Mp
theorem LeL.set : ∀ (ms : List (Option Nat)) (i : Nat) (b : Option Nat), (∀ a, ms[i]? = some a → leM a b) → LeL ms (ms.set i b)
  | [], _, _, _ => .nil
  | a :: ms, 0, b, h => .cons (h a rfl) (LeL.rfl' ms)
  | a :: ms, i + 1, b, h => .cons (leM.rfl' a) (LeL.set ms i b h)
end Mp
set_option maxHeartbeats 4000000
set_option maxHeartbeats 4000000
namespace Mp
def pover (p q : Rw) (e : Option Nat) : Option Nat := if ltM q.v p.v = true then some p.s else match p.g, q.g, p.v, q.v with
  | true, false, some v, some b => (match e with
    | none => some (p.s + b - v + 1)
    | some e => if p.s + b - v + 1 < e then some (p.s + b - v + 1) else none)
  | _, _, _, _ => none
theorem ltM_some (a b : Nat) : ltM (some a) (some b) = decide (a < b) := rfl
theorem pover_spec {p q : Rw} {e : Option Nat} (hs : q.s = p.s) (ha : p.v = none → p.g = false) (he : ∀ x, e = some x → p.s < x) :
    match pover p q e with
    | some m => p.s ≤ m ∧ (∀ x, e = some x → m < x) ∧ ltM (giv q m) (giv p m) = true ∧ ∀ k, p.s ≤ k → k < m → ltM (giv q k) (giv p k) = false
    | none => ∀ k, p.s ≤ k → (∀ x, e = some x → k < x) → ltM (giv q k) (giv p k) = false := by
  obtain ⟨s, v, g⟩ := p
  obtain ⟨s', b, h⟩ := q
  have hs : s' = s := hs
  subst hs
  have he : ∀ x, e = some x → s' < x := he
  unfold pover
  by_cases h0 : ltM b v = true
  · rw [if_pos h0]
    refine ⟨Nat.le_refl _, he, ?_, fun k h1 h2 => by have h1 : s' ≤ k := h1; have h2 : k < s' := h2; omega⟩
    show ltM (giv ⟨s', b, h⟩ s') (giv ⟨s', v, g⟩ s') = true
    have e1 : giv ⟨s', b, h⟩ s' = b := giv_start (r := ⟨s', b, h⟩)
    have e2 : giv ⟨s', v, g⟩ s' = v := giv_start (r := ⟨s', v, g⟩)
    rw [e1, e2]; exact h0
  · rw [if_neg h0]
    cases b with
    | none =>
      have : ∀ k, s' ≤ k → (∀ x, e = some x → k < x) → ltM (giv ⟨s', none, h⟩ k) (giv ⟨s', v, g⟩ k) = false := fun k _ _ => rfl
      cases g <;> cases h <;> cases v <;> exact this
    | some b =>
      cases v with
      | none => exact absurd rfl h0
      | some v =>
        have hv : v ≤ b := by
          rw [ltM_some] at h0
          exact Nat.le_of_not_lt fun z => h0 (decide_eq_true z)
        cases g with
        | false => cases h with
          | false => exact fun k _ _ => (show decide (b < v) = false from decide_eq_false (by omega))
          | true => exact fun k h1 _ => (show decide (b + k - s' < v) = false from decide_eq_false (by have h1 : s' ≤ k := h1; omega))
        | true => cases h with
          | true => exact fun k h1 _ => (show decide (b + k - s' < v + k - s') = false from decide_eq_false (by have h1 : s' ≤ k := h1; omega))
          | false =>
            have at_ : ∀ k, s' ≤ k → ltM (giv ⟨s', some b, false⟩ k) (giv ⟨s', some v, true⟩ k) = decide (b < v + k - s') := fun k _ => rfl
            cases e with
            | none =>
              refine ⟨by show s' ≤ s' + b - v + 1; omega, fun _ z => (nomatch z), ?_, fun k h1 h2 => ?_⟩
              · rw [at_ _ (by show s' ≤ s' + b - v + 1; omega)]; exact decide_eq_true (by show b < v + (s' + b - v + 1) - s'; omega)
              · have h1 : s' ≤ k := h1
                have h2 : k < s' + b - v + 1 := h2
                rw [at_ k h1]; exact decide_eq_false (by omega)
            | some e =>
              dsimp only
              by_cases h3 : s' + b - v + 1 < e
              · rw [if_pos h3]
                refine ⟨by show s' ≤ s' + b - v + 1; omega, fun x z => by cases z; exact h3, ?_, fun k h1 h2 => ?_⟩
                · rw [at_ _ (by show s' ≤ s' + b - v + 1; omega)]; exact decide_eq_true (by show b < v + (s' + b - v + 1) - s'; omega)
                · have h1 : s' ≤ k := h1
                  have h2 : k < s' + b - v + 1 := h2
                  rw [at_ k h1]; exact decide_eq_false (by omega)
              · rw [if_neg h3]
                intro k h1 h2
                have h1 : s' ≤ k := h1
                have := h2 e rfl
                rw [at_ k h1]; exact decide_eq_false (by omega)
end Mp
set_option maxHeartbeats 4000000
namespace Mp
def grow (R : List Rw) (s : Nat) : Bool := ((R[placeM R s]?).map (·.g)).getD false
def partM (R : List Rw) (s : Nat) : Rw := ⟨s, val R s, grow R s⟩
theorem cut_giv {r : Rw} {s k : Nat} (h : r.s ≤ s) (hk : s ≤ k) : giv ⟨s, giv r s, r.g⟩ k = giv r k := by
  obtain ⟨t, v, g⟩ := r
  have h : t ≤ s := h
  cases v with
  | none => rfl
  | some v => cases g with
    | false => rfl
    | true =>
      show some (v + s - t + k - s) = some (v + k - t)
      congr 1; omega
theorem same_place {R : List Rw} {s k : Nat} (hk : s ≤ k) (no : ∀ r, r ∈ R → r.s ≤ k → r.s ≤ s) : placeM R k = placeM R s := by
  unfold placeM
  congr 1
  refine List.countP_congr fun r hr => ?_
  have := no r hr
  simp only [decide_eq_true_eq]
  omega
theorem part_giv {R : List Rw} {f : Nat → Option Nat} (h : RepF R f) {s k : Nat} (hk : s ≤ k) (no : ∀ r, r ∈ R → r.s ≤ k → r.s ≤ s) : giv (partM R s) k = f k ∧ ((partM R s).v = none → (partM R s).g = false) := by
  have lt := place_lt h s
  obtain ⟨r, hr⟩ : ∃ r, R[placeM R s]? = some r := ⟨R[placeM R s], List.getElem?_eq_getElem _⟩
  obtain ⟨v1, v2⟩ := val_place h s r hr
  obtain ⟨w1, w2⟩ := val_place h k r (by rw [same_place hk no]; exact hr)
  have gr : grow R s = r.g := by unfold grow; rw [hr]; rfl
  have pm : partM R s = ⟨s, giv r s, r.g⟩ := by unfold partM; rw [gr, h.eq s, v1]
  rw [pm]
  refine ⟨by rw [cut_giv v2 hk, w1], fun z => ?_⟩
  exact h.al r (List.mem_of_getElem? hr) (giv_none.mp z)
def overGo (R S : List Rw) : List Nat → Option Nat
  | [] => none
  | s :: l => match pover (partM R s) (partM S s) l.head? with
    | some m => some m
    | none => overGo R S l
theorem over_spec {R S : List Rw} {f g : Nat → Option Nat} (hR : RepF R f) (hS : RepF S g) : ∀ (l : List Nat) (s : Nat), (s :: l).Pairwise (· < ·) → (∀ r, r ∈ R → r.s ≤ s ∨ r.s ∈ l) → (∀ r, r ∈ S → r.s ≤ s ∨ r.s ∈ l) →
    match overGo R S (s :: l) with
    | some m => s ≤ m ∧ ltM (g m) (f m) = true ∧ ∀ k, s ≤ k → k < m → ltM (g k) (f k) = false
    | none => ∀ k, s ≤ k → ltM (g k) (f k) = false
  | l, s, hp, h1, h2 => by
    have hp' := List.pairwise_cons.mp hp
    have no : ∀ (T : List Rw), (∀ r, r ∈ T → r.s ≤ s ∨ r.s ∈ l) → ∀ k, (∀ x, l.head? = some x → k < x) → ∀ r, r ∈ T → r.s ≤ k → r.s ≤ s := fun T hT k hk r hr hrk => by
      rcases hT r hr with z | z
      · exact z
      · exfalso
        cases l with
        | nil => cases z
        | cons e l =>
          have := hk e rfl
          rcases List.mem_cons.mp z with z | z
          · omega
          · have := (List.pairwise_cons.mp hp'.2).1 _ z; omega
    have eqk : ∀ k, s ≤ k → (∀ x, l.head? = some x → k < x) → giv (partM R s) k = f k ∧ giv (partM S s) k = g k := fun k hk hx => ⟨(part_giv hR hk (no R h1 k hx)).1, (part_giv hS hk (no S h2 k hx)).1⟩
    have hlt : ∀ x, l.head? = some x → s < x := fun x hx => by
      cases l with
      | nil => cases hx
      | cons e l => cases hx; exact hp'.1 _ List.mem_cons_self
    have al := (part_giv hR (Nat.le_refl s) (fun r _ z => z)).2
    have sp := pover_spec (p := partM R s) (q := partM S s) (e := l.head?) rfl al hlt
    unfold overGo
    cases hq : pover (partM R s) (partM S s) l.head? with
    | some m =>
      rw [hq] at sp
      obtain ⟨a1, a2, a3, a4⟩ := sp
      obtain ⟨b1, b2⟩ := eqk m a1 a2
      refine ⟨a1, by rw [← b1, ← b2]; exact a3, fun k hk hkm => ?_⟩
      obtain ⟨c1, c2⟩ := eqk k hk (fun x hx => by have := a2 x hx; omega)
      rw [← c1, ← c2]
      exact a4 k hk hkm
    | none =>
      rw [hq] at sp
      have low : ∀ k, s ≤ k → (∀ x, l.head? = some x → k < x) → ltM (g k) (f k) = false := fun k hk hx => by
        obtain ⟨c1, c2⟩ := eqk k hk hx
        rw [← c1, ← c2]
        exact sp k hk hx
      cases l with
      | nil => exact fun k hk => low k hk (fun _ z => nomatch z)
      | cons e l =>
        have hse := hp'.1 e List.mem_cons_self
        have mv : ∀ (T : List Rw), (∀ r, r ∈ T → r.s ≤ s ∨ r.s ∈ e :: l) → ∀ r, r ∈ T → r.s ≤ e ∨ r.s ∈ l := fun T hT r hr => by
          rcases hT r hr with z | z
          · exact .inl (by omega)
          · rcases List.mem_cons.mp z with z | z
            · exact .inl (by omega)
            · exact .inr z
        have ih := over_spec hR hS l e hp'.2 (mv R h1) (mv S h2)
        dsimp only
        cases ho : overGo R S (e :: l) with
        | some m =>
          rw [ho] at ih
          obtain ⟨a1, a2, a3⟩ := ih
          refine ⟨by omega, a2, fun k hk hkm => ?_⟩
          by_cases hke : k < e
          · exact low k hk (fun x hx => by cases hx; exact hke)
          · exact a3 k (by omega) hkm
        | none =>
          rw [ho] at ih
          intro k hk
          by_cases hke : k < e
          · exact low k hk (fun x hx => by cases hx; exact hke)
          · exact ih k (by omega)
end Mp
set_option maxHeartbeats 4000000
namespace Mp
/-- what parts give -/
def hP (parts : List Rw) (n m : Nat) : Option Nat := nthM (parts.map fun p => giv p m) n
section
variable {parts : List Rw} {n s a : Nat}
theorem giv_part {p : Rw} {s t : Nat} (hs : p.s = s) (ht : s ≤ t) : giv p t = p.v.map fun v => if p.g then v + (t - s) else v := by
  obtain ⟨s', v, g⟩ := p
  cases hs
  have ht : s' ≤ t := ht
  cases v with
  | none => rfl
  | some v =>
    show some (if g then v + t - s' else v) = some (if g then v + (t - s') else v)
    cases g with
    | false => rfl
    | true => show some (v + t - s') = some (v + (t - s')); congr 1; omega
end
end Mp
set_option maxHeartbeats 4000000
namespace Mp
def hL (Ts : List (List Rw)) (n m : Nat) : Option Nat := nthM (Ts.map fun R => val R m) n
end Mp
set_option maxHeartbeats 4000000
namespace Mp
theorem filter_take (m : Nat) : ∀ R : List Rw, StR R → (R.filter fun r => decide (r.s ≤ m)) = R.take (R.countP fun q => decide (q.s ≤ m))
  | [], _ => rfl
  | r :: R, h => by
    obtain ⟨h1, h2⟩ := List.pairwise_cons.mp h
    by_cases hc : r.s ≤ m
    · rw [List.filter_cons_of_pos (by simpa using hc), List.countP_cons_of_pos (by simpa using hc), List.take_succ_cons, filter_take m R h2]
    · have e : ∀ q, q ∈ R → ¬ q.s ≤ m := fun q hq => by have := h1 q hq; omega
      rw [List.filter_cons_of_neg (by simpa using hc), List.countP_cons_of_neg (by simpa using hc)]
      have e1 : (R.filter fun r => decide (r.s ≤ m)) = [] := List.filter_eq_nil_iff.mpr fun q hq => by simpa using e q hq
      have e2 : R.countP (fun q => decide (q.s ≤ m)) = 0 := List.countP_eq_zero.mpr fun q hq => by simpa using e q hq
      rw [e1, e2]; rfl
theorem last_at_ {R : List Rw} {f : Nat → Option Nat} (h : RepF R f) (m : Nat) : ∃ r, (R.filter fun r => decide (r.s ≤ m)).getLast? = some r ∧ f m = giv r m ∧ r.s ≤ m ∧ r ∈ R := by
  have lt := place_lt h m
  have hp := place_pos h m
  have hx : R[placeM R m]? = some R[placeM R m] := List.getElem?_eq_getElem lt
  obtain ⟨v1, v2⟩ := val_place h m _ hx
  refine ⟨R[placeM R m], ?_, v1, v2, List.getElem_mem _⟩
  rw [filter_take m R h.st, List.getLast?_eq_getElem?, List.length_take]
  have : R.countP (fun q => decide (q.s ≤ m)) ≤ R.length := List.countP_le_length
  rw [List.getElem?_take_of_lt (by omega)]
  rw [show min (R.countP fun q => decide (q.s ≤ m)) R.length - 1 = placeM R m by unfold placeM; omega]
  exact hx
/-- rows so far, where the next one may begin, and how low it may be -/
structure Drawn (R : List Rw) (s v : Nat) : Prop where
  alone : ∀ r, r ∈ R → rightAlone r = true
  be : ∀ i a r, R[i]? = some a → R[i + 1]? = some r → rightBehind r a = true
  z : (R ++ [(⟨s, none, false⟩ : Rw)]).head?.map (·.s) = some 0
  last : ∀ a, R.getLast? = some a → a.s < s ∧ ∃ x, giv a (s - 1) = some x ∧ x ≤ v ∧ s - 1 ≤ x
  sv : s ≤ v
theorem Drawn.nil (v : Nat) : Drawn [] 0 v := ⟨(fun _ h => nomatch h), (fun _ _ _ h => nomatch h), rfl, (fun _ h => nomatch h), Nat.zero_le _⟩
theorem Drawn.behind {R : List Rw} {s v : Nat} (h : Drawn R s v) {q : Rw} (hq : q.s = s) (hv : ∀ w, q.v = some w → v ≤ w) : ∀ a, R.getLast? = some a → rightBehind q a = true := fun a ha => by
  obtain ⟨h1, x, h2, h3, h4⟩ := h.last a ha
  unfold rightBehind
  rw [hq, h2, decide_eq_true h1]
  have e1 : ltM (some x) (some (s - 1)) = false := decide_eq_false (by omega)
  have e2 : ltM q.v (some x) = false := by
    cases hw : q.v with
    | none => rfl
    | some w => have := hv w hw; exact decide_eq_false (by omega)
  rw [e1, e2]; rfl
theorem be_app {R : List Rw} {q : Rw} (h : ∀ i a r, R[i]? = some a → R[i + 1]? = some r → rightBehind r a = true) (hq : ∀ a, R.getLast? = some a → rightBehind q a = true) : ∀ i a r, (R ++ [q])[i]? = some a → (R ++ [q])[i + 1]? = some r → rightBehind r a = true := fun i a r ha hr => by
  have hl := (List.getElem?_eq_some_iff.mp hr).1
  rw [List.length_append, List.length_singleton] at hl
  rw [List.getElem?_append_left (by omega)] at ha
  rcases Nat.lt_or_ge (i + 1) R.length with z | z
  · rw [List.getElem?_append_left z] at hr
    exact h i a r ha hr
  · have e : i + 1 = R.length := by omega
    rw [List.getElem?_append_right (by omega), e, Nat.sub_self] at hr
    cases hr
    refine hq a ?_
    rw [List.getLast?_eq_getElem?, ← e]
    exact ha
theorem Drawn.fin {R : List Rw} {s v : Nat} (h : Drawn R s v) {q : Rw} (hq : q.s = s) (hv : ∀ w, q.v = some w → v ≤ w) (ha : rightAlone q = true) (he : endsRight q = true) : Checked (R ++ [q]) := by
  refine ⟨?_, fun r hr => ?_, be_app h.be (h.behind hq hv), fun r hr => ?_⟩
  · have := h.z
    cases R with
    | nil =>
      have this : s = 0 := Option.some.inj this
      show some q.s = some 0
      rw [hq, this]
    | cons a R => exact this
  · rcases List.mem_append.mp hr with hr | hr
    · exact h.alone r hr
    · rw [List.mem_singleton.mp hr]; exact ha
  · rw [List.getLast?_append] at hr
    cases hr
    exact he
theorem Drawn.more {R : List Rw} {s v : Nat} (h : Drawn R s v) (g : Bool) (many w : Nat) (h1 : 1 ≤ many) (hm : g = false → many ≤ v - s + 1) (hw : (if g then v + (many - 1) else v) ≤ w) (hs : s + many ≤ w) : Drawn (R ++ [⟨s, some v, g⟩]) (s + many) w := by
  refine ⟨fun r hr => ?_, be_app h.be (h.behind rfl fun w hw => by cases hw; exact Nat.le_refl _), ?_, fun a ha => ?_, hs⟩
  · rcases List.mem_append.mp hr with hr | hr
    · exact h.alone r hr
    · rw [List.mem_singleton.mp hr]
      exact decide_eq_true h.sv
  · have := h.z
    cases R with
    | nil => exact this
    | cons a R => exact this
  · rw [List.getLast?_append] at ha
    cases ha
    have sv := h.sv
    refine ⟨by show s < s + many; omega, (if g then v + (many - 1) else v), ?_, hw, ?_⟩
    · show some (if g then v + (s + many - 1) - s else v) = _
      congr 1
      cases g with
      | false => rfl
      | true => show v + (s + many - 1) - s = v + (many - 1); omega
    · cases g with
      | false => have := hm rfl; show s + many - 1 ≤ v; omega
      | true => show s + many - 1 ≤ v + (many - 1); omega
end Mp
set_option maxHeartbeats 4000000
namespace Mp
def accF (f : Nat → Option Nat) : Nat → List Rw
  | 0 => []
  | n + 1 => tell (accF f n) n (f n)
theorem accF_agr (f : Nat → Option Nat) : ∀ n, Agr0 (accF f n) f n
  | 0 => .inl ⟨rfl, rfl⟩
  | n + 1 => .inr (accF_agr f n).tell
theorem fold_acc {f : Nat → Option Nat} {r : Rw} : ∀ (k n : Nat), (∀ m, n ≤ m → m < n + k → giv r m = f m) → (List.range' n k).foldl (fun acc m => tell acc m (giv r m)) (accF f n) = accF f (n + k)
  | 0, n, _ => rfl
  | k + 1, n, h => by
    rw [List.range'_succ, List.foldl_cons, h n (Nat.le_refl n) (by omega)]
    have := fold_acc k (n + 1) (fun m h1 h2 => h m (by omega) (by omega))
    rw [show n + (k + 1) = n + 1 + k by omega]
    exact this
theorem tell_same {q : Rw} {a : List Rw} {m : Nat} {x : Option Nat} (h : giv q m = x) : tell (q :: a) m x = q :: a := by
  unfold tell wid
  dsimp only
  rw [if_pos h]
theorem acc_far {f : Nat → Option Nat} {n : Nat} {q : Rw} {a : List Rw} (e : accF f n = q :: a) : ∀ k, (∀ m, n ≤ m → m < n + k → giv q m = f m) → accF f (n + k) = accF f n
  | 0, _ => rfl
  | k + 1, h => by
    show tell (accF f (n + k)) (n + k) (f (n + k)) = _
    rw [acc_far e k (fun m h1 h2 => h m h1 (by omega)), e]
    exact tell_same (h (n + k) (by omega) (by omega))
theorem row_acc {f : Nat → Option Nat} {r : Rw} {e : Nat} (he : r.s < e) (hf : ∀ m, r.s ≤ m → m < e → giv r m = f m) : toldRow (accF f r.s) r (some e) = accF f e := by
  unfold toldRow minsM
  dsimp only
  by_cases hs : e ≤ r.s + 3
  · rw [show min e (r.s + 3) - r.s = e - r.s by omega, fold_acc (e - r.s) r.s (fun m h1 h2 => hf m h1 (by omega)), show r.s + (e - r.s) = e by omega]
  · rw [show min e (r.s + 3) - r.s = 3 by omega, fold_acc 3 r.s (fun m h1 h2 => hf m h1 (by omega))]
    have A1 : Agr (tell (accF f r.s) r.s (f r.s)) f (r.s + 1) := (accF_agr f r.s).tell
    obtain ⟨r1, a1, e1⟩ := A1.ne
    obtain ⟨s1, g1⟩ := A1.head_giv (h := r1) (by rw [e1]; rfl)
    have hh : (tell (accF f r.s) r.s (f r.s)).head? = some r1 := by rw [e1]; rfl
    have t1 := tell_head hh (r.s + 1) (giv r (r.s + 1))
    have t2 := tell_head t1 (r.s + 2) (giv r (r.s + 2))
    have e3 : accF f (r.s + 3) = tell (tell (tell (accF f r.s) r.s (f r.s)) (r.s + 1) (giv r (r.s + 1))) (r.s + 2) (giv r (r.s + 2)) := by
      rw [hf (r.s + 1) (by omega) (by omega), hf (r.s + 2) (by omega) (by omega)]; rfl
    rw [← e3] at t2
    obtain ⟨q, a, ea⟩ : ∃ q a, accF f (r.s + 3) = q :: a := by
      cases hq : accF f (r.s + 3) with
      | nil => rw [hq] at t2; cases t2
      | cons q a => exact ⟨q, a, rfl⟩
    have hq : q = nh (nh r1 (r.s + 1) (giv r (r.s + 1))) (r.s + 2) (giv r (r.s + 2)) := by rw [ea] at t2; exact Option.some.inj t2
    have := acc_far ea (e - (r.s + 3)) (fun m h1 h2 => by
      rw [hq, three (by rw [g1, hf r.s (Nat.le_refl _) he]) s1 m (by omega)]
      exact hf m (by omega) (by omega))
    rw [show r.s + 3 + (e - (r.s + 3)) = e by omega] at this
    exact this.symm
theorem row_acc_end {f : Nat → Option Nat} {r : Rw} (hf : ∀ m, r.s ≤ m → giv r m = f m) : ∀ e, r.s + 3 ≤ e → toldRow (accF f r.s) r none = accF f e := by
  intro e he
  have := row_acc (e := e) (by omega) (fun m h1 _ => hf m h1)
  have e1 : toldRow (accF f r.s) r (some e) = toldRow (accF f r.s) r none := by
    unfold toldRow minsM
    dsimp only
    rw [show min e (r.s + 3) - r.s = 3 by omega]
  rw [e1] at this
  exact this
theorem told_acc {f : Nat → Option Nat} : ∀ (R : List Rw) (r : Rw), StR (r :: R) → (∀ m, r.s ≤ m → val (r :: R) m = f m) → ∃ n, ∀ e, n ≤ e → toldGo (accF f r.s) (r :: R) = accF f e
  | [], r, _, hf => ⟨r.s + 3, row_acc_end hf⟩
  | q :: R, r, hst, hf => by
    have h' := List.pairwise_cons.mp hst
    have lt : r.s < q.s := h'.1 q List.mem_cons_self
    have A := row_acc (f := f) (e := q.s) lt (fun m h1 h2 => by
      have := hf m h1
      rw [val_cons, if_neg (by omega)] at this
      exact this)
    obtain ⟨n, hn⟩ := told_acc (f := f) R q h'.2 fun m hm => by
      have := hf m (by omega)
      rw [val_cons, if_pos hm] at this
      exact this
    refine ⟨n, fun e he => ?_⟩
    show toldGo (toldRow (accF f r.s) r (some q.s)) (q :: R) = _
    rw [A]
    exact hn e he
theorem told_accF {R : List Rw} {f : Nat → Option Nat} (h : RepF R f) : ∃ n, ∀ e, n ≤ e → toldM R = (accF f e).reverse := by
  cases R with
  | nil => have := h.z; cases this
  | cons r R =>
    have z : r.s = 0 := Option.some.inj h.z
    obtain ⟨n, A⟩ := told_acc (f := f) R r h.st (fun m _ => h.eq m)
    refine ⟨n, fun e he => ?_⟩
    have := A e he
    rw [z] at this
    unfold toldM
    rw [← this]
    rfl
/-- like maps have like rows -/
theorem told_like {R S : List Rw} {f : Nat → Option Nat} (hR : RepF R f) (hS : RepF S f) : toldM R = toldM S := by
  obtain ⟨n, h⟩ := told_accF hR
  obtain ⟨m, k⟩ := told_accF hS
  rw [h (max n m) (by omega), k (max n m) (by omega)]
/-- and like rows tell like maps -/
theorem told_iff {R S : List Rw} {f g : Nat → Option Nat} (hR : RepF R f) (hS : RepF S g) : toldM R = toldM S ↔ ∀ m, f m = g m := by
  constructor
  · intro e m
    rw [← (told_rep hR).eq m, ← (told_rep hS).eq m, e]
  · intro e
    exact told_like hR ⟨hS.st, hS.z, hS.al, fun m => (hS.eq m).trans (e m).symm⟩
def Can : List Rw → Prop
  | b :: a :: l => giv a b.s ≠ b.v ∧ Can (a :: l)
  | _ => True
theorem can_tell {acc : List Rw} (h : Can acc) (m : Nat) (x : Option Nat) : Can (tell acc m x) := by
  cases acc with
  | nil => exact trivial
  | cons r a =>
    unfold tell wid
    dsimp only
    by_cases h1 : giv r m = x
    · rw [if_pos h1]; exact h
    · rw [if_neg h1]
      cases hv : r.v with
      | none => exact ⟨h1, h⟩
      | some v =>
        dsimp only
        split
        · rename_i w hw
          split at hw
          · cases hw
            cases a with
            | nil => exact trivial
            | cons b l => exact ⟨by rw [← hv]; exact h.1, h.2⟩
          · cases hw
        · exact ⟨h1, h⟩
theorem can_acc (f : Nat → Option Nat) : ∀ n, Can (accF f n)
  | 0 => trivial
  | n + 1 => can_tell (can_acc f n) n (f n)
def lastM (T : List Rw) : Option Nat := match T.getLast? with
  | some r => match r.v with
    | none => if 0 < r.s then some (r.s - 1) else none
    | some _ => none
  | none => none
theorem last_told {R : List Rw} {f : Nat → Option Nat} (h : RepF R f) (hg : Good f) : match lastM (toldM R) with
    | some k => f k ≠ none ∧ ∀ m, k < m → f m = none
    | none => (∀ m, f m ≠ none) ∨ ∀ m, f m = none := by
  obtain ⟨n, hn⟩ := told_accF h
  have T := told_rep h
  have e := hn n (Nat.le_refl n)
  have can := can_acc f n
  have stay : ∀ a b, a ≤ b → f a = none → f b = none := fun a b hab ha => by
    cases hb : f b with
    | none => rfl
    | some y =>
      have := hg.mono a b hab y (by rw [hb]; exact ⟨y, rfl, Nat.le_refl _⟩)
      rw [ha] at this
      obtain ⟨_, h, _⟩ := this
      cases h
  rw [e] at T
  unfold lastM
  rw [e, List.getLast?_reverse]
  generalize accF f n = acc at *
  cases acc with
  | nil => have := T.z; cases this
  | cons r a =>
    have tl : ∀ m, r.s ≤ m → f m = giv r m := fun m hm => by
      rw [← T.eq m, List.reverse_cons]
      exact val_at a.reverse r [] m (by rw [← List.reverse_cons]; exact T.st) hm (fun q hq => nomatch hq)
    show match (match r.v with
      | none => if 0 < r.s then some (r.s - 1) else none
      | some _ => none) with
      | some k => f k ≠ none ∧ ∀ m, k < m → f m = none
      | none => (∀ m, f m ≠ none) ∨ ∀ m, f m = none
    cases hv : r.v with
    | some v =>
      left
      intro m hm
      have := stay m (max m r.s) (by omega) hm
      rw [tl _ (by omega), giv_none] at this
      rw [this] at hv; cases hv
    | none =>
      have fn : ∀ m, r.s ≤ m → f m = none := fun m hm => by rw [tl m hm]; exact giv_none.mpr hv
      by_cases hs : 0 < r.s
      · dsimp only
        rw [if_pos hs]
        refine ⟨?_, fun m hm => fn m (by omega)⟩
        cases a with
        | nil =>
          have := T.z
          have e : r.s = 0 := Option.some.inj this
          omega
        | cons b l =>
          have c := can.1
          rw [hv] at c
          have st := T.st
          rw [List.reverse_cons, List.reverse_cons, List.append_assoc] at st
          have lt : b.s < r.s := by
            have := (List.pairwise_append.mp st).2.1
            exact (List.pairwise_cons.mp this).1 r (by simp)
          have : f (r.s - 1) = giv b (r.s - 1) := by
            rw [← T.eq, List.reverse_cons, List.reverse_cons, List.append_assoc]
            exact val_at l.reverse b [r] (r.s - 1) st (by omega) (fun q hq => by cases hq; omega)
          rw [this]
          intro h
          rw [giv_none] at h
          exact c (giv_none.mpr h)
      · dsimp only
        rw [if_neg hs]
        right
        intro m
        exact fn m (by omega)
theorem val_tail {R : List Rw} (h : Checked R) {B : Nat} (hB : SmR B R) : ∀ m, B ≤ m → val R m = (val R B).map (· + (m - B)) := by
  have st := checked_st h
  have ne : R ≠ [] := by intro e; have := h.z; rw [e] at this; cases this
  obtain ⟨r, hr⟩ : ∃ r, R.getLast? = some r := by
    cases hq : R.getLast? with
    | none => rw [List.getLast?_eq_none_iff] at hq; exact absurd hq ne
    | some r => exact ⟨r, rfl⟩
  have e : R = R.dropLast ++ [r] := by
    have := List.dropLast_concat_getLast ne
    rw [List.getLast?_eq_some_getLast ne] at hr
    rw [Option.some.inj hr] at this
    exact this.symm
  have rm : r ∈ R := by rw [e]; simp
  have rs := hB r rm
  have tl : ∀ m, r.s ≤ m → val R m = giv r m := fun m hm => by
    rw [e]
    exact val_at R.dropLast r [] m (by rw [← e]; exact st) hm (fun q hq => nomatch hq)
  have en := h.en r hr
  intro m hm
  rw [tl m (by omega), tl B rs]
  unfold giv
  unfold endsRight at en
  cases hv : r.v with
  | none => rfl
  | some v =>
    rw [hv] at en
    have en : r.g = true := en
    dsimp only
    rw [en]
    show some (v + m - r.s) = some (v + B - r.s + (m - B))
    congr 1; omega
theorem ltM_add (a b : Option Nat) (k : Nat) : ltM (a.map (· + k)) (b.map (· + k)) = ltM a b := by
  cases a with
  | none => cases b <;> rfl
  | some a =>
    cases b with
    | none => rfl
    | some b =>
      show decide (a + k < b + k) = decide (a < b)
      rw [decide_eq_decide]; omega
theorem ltM_eq {a b : Option Nat} (h1 : ltM a b = false) (h2 : ltM b a = false) : a = b := by
  cases a with
  | none =>
    cases b with
    | none => rfl
    | some b => cases h2
  | some a =>
    cases b with
    | none => cases h1
    | some b =>
      have h1 : decide (a < b) = false := h1
      have h2 : decide (b < a) = false := h2
      have := of_decide_eq_false h1
      have := of_decide_eq_false h2
      congr 1; omega
theorem ltM_irr (a : Option Nat) : ltM a a = false := by
  cases a with
  | none => rfl
  | some a => exact decide_eq_false (by omega)
/-- the first of the minutes below many at which a thing holds that shows by M -/
theorem first_filt (P : Nat → Bool) {many M : Nat} (hM : M < many) (hP : ∀ m, M ≤ m → P m = P M) (o : Option Nat) (ho : match o with
    | some m => P m = true ∧ ∀ k, k < m → P k = false
    | none => ∀ k, P k = false) : ((List.range' 0 many).filter P).head? = o ∧ (o = none ↔ (List.range' 0 many).filter P = []) := by
  cases o with
  | none =>
    have : (List.range' 0 many).filter P = [] := List.filter_eq_nil_iff.mpr fun m _ => by rw [ho m]; exact Bool.false_ne_true
    rw [this]
    exact ⟨rfl, fun _ => rfl, fun _ => rfl⟩
  | some m =>
    have lt : m < many := by
      by_cases h : m < many
      · exact h
      · have h1 := hP m (by omega)
        have h2 := ho.2 M (by omega)
        rw [ho.1, h2] at h1
        cases h1
    have e : List.range' 0 many = List.range' 0 m ++ m :: List.range' (m + 1) (many - m - 1) := by
      have a := List.range'_append (s := 0) (m := m) (n := many - m) (step := 1)
      rw [show m + (many - m) = many by omega] at a
      rw [← a, show many - m = many - m - 1 + 1 by omega, List.range'_succ]
      simp
    have z : (List.range' 0 m).filter P = [] := List.filter_eq_nil_iff.mpr fun k hk => by
      rw [ho.2 k (by have := List.mem_range'_1.mp hk; omega)]; exact Bool.false_ne_true
    rw [e, List.filter_append, z, List.filter_cons, if_pos ho.1]
    refine ⟨rfl, ?_⟩
    constructor <;> intro h <;> cases h
end Mp
set_option maxHeartbeats 4000000
namespace Mp
open PySem L2 PyProof.Rows
variable [TabsW] [GdW]
def top (i : Nat) : Stmt := PySem.Challenge.pw_risingday_k02_maps_asked.main.body.getD i (.Pass ⟨0, 0, 0, 0⟩)
def inTop (i j : Nat) : Stmt := match top i with
  | .ClassDef _ _ _ body _ _ _ _ _ _ _ => body.getD j (.Pass ⟨0, 0, 0, 0⟩)
  | _ => .Pass ⟨0, 0, 0, 0⟩
section
variable {P : Program} {w : World} {K : PySem.W.Frag} {mg : Str → Option Value} {base : Heap}
def dM : Option Nat → D
  | none => .non
  | some n => .int n
def dRw (r : Rw) : D := .tup [.int (r.s : Nat), dM r.v, .bl r.g]
def rwD : D → Option Rw
  | .tup [.int s, .non, .bl g] => if 0 ≤ s then some ⟨s.toNat, none, g⟩ else none
  | .tup [.int s, .int v, .bl g] => if 0 ≤ s ∧ 0 ≤ v then some ⟨s.toNat, some v.toNat, g⟩ else none
  | _ => none
def rowsD : List D → Option (List Rw)
  | [] => some []
  | d :: ds => (rwD d).bind fun r => (rowsD ds).map (r :: ·)
def chainB : List Rw → Bool
  | [] => true
  | [r] => rightAlone r && endsRight r
  | r :: q :: R => rightAlone r && rightBehind q r && chainB (q :: R)
def letR (R : List Rw) : Bool := chainB R && (match R with
  | r :: _ => decide (r.s = 0)
  | [] => false) && decide (R.length ≤ 1000) && R.all fun r => decide (r.s ≤ 900000)
def k_Rising : Mkr := ⟨"Rising", 1, ["rows"], fun ds => match ds with
  | [C] => (match seqD C with
    | some l => (match rowsD l with
      | some R => if letR R then .ok .non [.tup ((toldM R).map dRw)] else .bad
      | none => .bad)
    | none => .bad)
  | _ => .bad⟩
def b_is_whole : List ST := [.ret (.and_ (.isin (.v 0) [.int]) (.not_ (.isin (.v 0) [.bool])))]
def g_is_whole : Ctx := ⟨[], [], [], ["Rising"], []⟩
def f_is_whole : Fn := ⟨1, none, semB g_is_whole 1 none b_is_whole⟩
theorem sc_is_whole : FnScope ["value"] ["value"] (defScope (top 7)) := ⟨rfl, rfl, rfl, by decide +kernel, rfl, by decide +kernel, by decide +kernel⟩
theorem ok_is_whole {f : Addr} {fd : FuncData} (F : Fun K "is_whole" "is_whole" (top 7) f fd) (z_isinstance : mg "isinstance" = none) (z_int : mg "int" = none) (z_bool : mg "bool" = none) (hC : ∀ C, C ∈ (["Rising"] : List Str) → IsC K C) (K_int : IsK K ["Rising"] .int (.type "int")) (K_bool : IsK K ["Rising"] .bool (.type "bool")) :
    FnOk P w K mg base (L2.CX P w) 1 f fd ["value"] (spF K 1 none (semB g_is_whole 1 none b_is_whole)) :=
  have S := sc_is_whole
  fn_body F S (by decide) fun cdv A outer s H E hr =>
    (ss_cons (st_ret (e_and (e_isin1 hC K_int (.ty "int") (e_v (i := 0) rfl (by first | exact .inl rfl | exact .inr (.inl rfl) | exact .inr (.inr rfl)) (by decide) (by decide)) (pe_bltn rfl z_int (by decide +kernel) rfl) rfl z_isinstance rfl rfl) (pe_one (e_not (e_isin1 hC K_bool (.ty "bool") (e_v (i := 0) rfl (by first | exact .inl rfl | exact .inr (.inl rfl) | exact .inr (.inr rfl)) (by decide) (by decide)) (pe_bltn rfl z_bool (by decide +kernel) rfl) rfl z_isinstance rfl rfl))))) ss_nil)
def b_is_count : List ST := [.ret (.and_ (.call 0 [.v 0]) (.cmp .ge (.v 0) (.c (.int 0))))]
def g_is_count : Ctx := ⟨[f_is_whole], [], [], ["Rising"], []⟩
def f_is_count : Fn := ⟨1, none, semB g_is_count 1 none b_is_count⟩
theorem sc_is_count : FnScope ["value"] ["value"] (defScope (top 8)) := ⟨rfl, rfl, rfl, by decide +kernel, rfl, by decide +kernel, by decide +kernel⟩
theorem ok_is_count {f : Addr} {fd : FuncData} (F : Fun K "is_count" "is_count" (top 8) f fd) (F_is_whole : FnF P w K mg base 1 "is_whole" f_is_whole) :
    FnOk P w K mg base (L2.CX P w) 2 f fd ["value"] (spF K 1 none (semB g_is_count 1 none b_is_count)) :=
  have S := sc_is_count
  fn_body F S (by decide) fun cdv A outer s H E hr =>
    (ss_cons (st_ret (e_and (e_call F_is_whole rfl (hr.mono (by decide)) (takes_of rfl rfl rfl rfl) rfl (aa_cons (e_v (i := 0) rfl (by first | exact .inl rfl | exact .inr (.inl rfl) | exact .inr (.inr rfl)) (by decide) (by decide)) aa_nil rfl) rfl) (pe_one (x_ge (e_v (i := 0) rfl (by first | exact .inl rfl | exact .inr (.inl rfl) | exact .inr (.inr rfl)) (by decide) (by decide)) xi)))) ss_nil)
def b_is_count_or_never : List ST := [.ret (.or_ (.cmp .is_ (.v 0) (.c .non)) (.call 0 [.v 0]))]
def g_is_count_or_never : Ctx := ⟨[f_is_count], [], [], ["Rising"], []⟩
def f_is_count_or_never : Fn := ⟨1, none, semB g_is_count_or_never 1 none b_is_count_or_never⟩
theorem sc_is_count_or_never : FnScope ["value"] ["value"] (defScope (top 9)) := ⟨rfl, rfl, rfl, by decide +kernel, rfl, by decide +kernel, by decide +kernel⟩
theorem ok_is_count_or_never {f : Addr} {fd : FuncData} (F : Fun K "is_count_or_never" "is_count_or_never" (top 9) f fd) (F_is_count : FnF P w K mg base 2 "is_count" f_is_count) :
    FnOk P w K mg base (L2.CX P w) 3 f fd ["value"] (spF K 1 none (semB g_is_count_or_never 1 none b_is_count_or_never)) :=
  have S := sc_is_count_or_never
  fn_body F S (by decide) fun cdv A outer s H E hr =>
    (ss_cons (st_ret (e_or (x_is (e_v (i := 0) rfl (by first | exact .inl rfl | exact .inr (.inl rfl) | exact .inr (.inr rfl)) (by decide) (by decide)) xn) (pe_one (e_call F_is_count rfl (hr.mono (by decide)) (takes_of rfl rfl rfl rfl) rfl (aa_cons (e_v (i := 0) rfl (by first | exact .inl rfl | exact .inr (.inl rfl) | exact .inr (.inr rfl)) (by decide) (by decide)) aa_nil rfl) rfl)))) ss_nil)
def b_is_listed : List ST := [.ret (.isin (.v 0) [.list, .tuple])]
def g_is_listed : Ctx := ⟨[], [], [], ["Rising"], []⟩
def f_is_listed : Fn := ⟨1, none, semB g_is_listed 1 none b_is_listed⟩
theorem sc_is_listed : FnScope ["value"] ["value"] (defScope (top 10)) := ⟨rfl, rfl, rfl, by decide +kernel, rfl, by decide +kernel, by decide +kernel⟩
theorem ok_is_listed {f : Addr} {fd : FuncData} (F : Fun K "is_listed" "is_listed" (top 10) f fd) (z_isinstance : mg "isinstance" = none) (z_list : mg "list" = none) (z_tuple : mg "tuple" = none) (hC : ∀ C, C ∈ (["Rising"] : List Str) → IsC K C) (K_list : IsK K ["Rising"] .list (.type "list")) (K_tuple : IsK K ["Rising"] .tuple (.type "tuple")) :
    FnOk P w K mg base (L2.CX P w) 1 f fd ["value"] (spF K 1 none (semB g_is_listed 1 none b_is_listed)) :=
  have S := sc_is_listed
  fn_body F S (by decide) fun cdv A outer s H E hr =>
    (ss_cons (st_ret (e_isin2 hC K_list K_tuple (.ty "list") (.ty "tuple") (e_v (i := 0) rfl (by first | exact .inl rfl | exact .inr (.inl rfl) | exact .inr (.inr rfl)) (by decide) (by decide)) (pe_bltn rfl z_list (by decide +kernel) rfl) (pe_bltn rfl z_tuple (by decide +kernel) rfl) rfl z_isinstance rfl rfl rfl)) ss_nil)
def b_need_minute : List ST := [.if_ (.not_ (.call 0 [.v 0])) [.raise "BadNumber" "number" (.v 0)] []]
def g_need_minute : Ctx := ⟨[f_is_count_or_never], [], [], ["Rising"], []⟩
def f_need_minute : Fn := ⟨1, none, semB g_need_minute 1 none b_need_minute⟩
theorem cl_need_minute_0 {a0 : IR} {env : Env} : ev g_need_minute (.call 0 [a0]) env = (evs g_need_minute [a0] env).bind fun ds e1 => runF e1 (f_is_count_or_never.sem ds) := ev_call rfl rfl rfl
theorem sc_need_minute : FnScope ["number"] ["number"] (defScope (top 12)) := ⟨rfl, rfl, rfl, by decide +kernel, rfl, by decide +kernel, by decide +kernel⟩
theorem ok_need_minute {f : Addr} {fd : FuncData} (F : Fun K "need_minute" "need_minute" (top 12) f fd) {I_BadNumber : Addr} (T_BadNumber : PySem.ErrBadNumber.LowTxt K mg (clsAt K "BadNumber") I_BadNumber) (F_is_count_or_never : FnF P w K mg base 3 "is_count_or_never" f_is_count_or_never) :
    FnOk P w K mg base (L2.CX P w) 4 f fd ["number"] (spF K 1 none (semB g_need_minute 1 none b_need_minute)) :=
  have S := sc_need_minute
  fn_body F S (by decide) fun cdv A outer s H E hr =>
    (ss_cons (st_if (t_not (t_truth (e_call F_is_count_or_never rfl (hr.mono (by decide)) (takes_of rfl rfl rfl rfl) rfl (aa_cons (e_v (i := 0) rfl (by first | exact .inl rfl | exact .inr (.inl rfl) | exact .inr (.inr rfl)) (by decide) (by decide)) aa_nil rfl) rfl) (fun _ => rfl))) (ss_cons (st_raise (ps_raiseLow_BadNumber rfl T_BadNumber hr.r (takes_of rfl rfl rfl rfl) (as_cons (e_v (i := 0) rfl (by first | exact .inl rfl | exact .inr (.inl rfl) | exact .inr (.inr rfl)) (by decide) (by decide)) as_nil rfl))) ss_nil) ss_nil) ss_nil)
def b_is_less : List ST := [.if_ (.cmp .is_ (.v 0) (.c .non)) [.ret (.c (.bl false))] [], .ret (.or_ (.cmp .is_ (.v 1) (.c .non)) (.cmp .lt (.v 0) (.v 1)))]
def g_is_less : Ctx := ⟨[], [], [], ["Rising"], []⟩
def f_is_less : Fn := ⟨2, none, semB g_is_less 2 none b_is_less⟩
theorem sc_is_less : FnScope ["one", "other"] ["one", "other"] (defScope (top 14)) := ⟨rfl, rfl, rfl, by decide +kernel, rfl, by decide +kernel, by decide +kernel⟩
theorem ok_is_less {f : Addr} {fd : FuncData} (F : Fun K "is_less" "is_less" (top 14) f fd)  :
    FnOk P w K mg base (L2.CX P w) 1 f fd ["one", "other"] (spF K 2 none (semB g_is_less 2 none b_is_less)) :=
  have S := sc_is_less
  fn_body F S (by decide) fun cdv A outer s H E hr =>
    (ss_cons (st_if (y_is (e_v (i := 0) rfl (by first | exact .inl rfl | exact .inr (.inl rfl) | exact .inr (.inr rfl)) (by decide) (by decide)) xn) (ss_cons (st_ret xb) ss_nil) ss_nil) (ss_cons (st_ret (e_or (x_is (e_v (i := 1) rfl (by first | exact .inl rfl | exact .inr (.inl rfl) | exact .inr (.inr rfl)) (by decide) (by decide)) xn) (pe_one (x_lt (e_v (i := 0) rfl (by first | exact .inl rfl | exact .inr (.inl rfl) | exact .inr (.inr rfl)) (by decide) (by decide)) (e_v (i := 1) rfl (by first | exact .inl rfl | exact .inr (.inl rfl) | exact .inr (.inr rfl)) (by decide) (by decide)))))) ss_nil))
def b_lesser : List ST := [.ret (.ite (.call 0 [.v 1, .v 0]) (.v 1) (.v 0))]
def g_lesser : Ctx := ⟨[f_is_less], [], [], ["Rising"], []⟩
def f_lesser : Fn := ⟨2, none, semB g_lesser 2 none b_lesser⟩
theorem cl_lesser_0 {a0 a1 : IR} {env : Env} : ev g_lesser (.call 0 [a0, a1]) env = (evs g_lesser [a0, a1] env).bind fun ds e1 => runF e1 (f_is_less.sem ds) := ev_call rfl rfl rfl
theorem sc_lesser : FnScope ["one", "other"] ["one", "other"] (defScope (top 15)) := ⟨rfl, rfl, rfl, by decide +kernel, rfl, by decide +kernel, by decide +kernel⟩
theorem ok_lesser {f : Addr} {fd : FuncData} (F : Fun K "lesser" "lesser" (top 15) f fd) (F_is_less : FnF P w K mg base 1 "is_less" f_is_less) :
    FnOk P w K mg base (L2.CX P w) 2 f fd ["one", "other"] (spF K 2 none (semB g_lesser 2 none b_lesser)) :=
  have S := sc_lesser
  fn_body F S (by decide) fun cdv A outer s H E hr =>
    (ss_cons (st_ret (e_ite (t_truth (e_call F_is_less rfl (hr.mono (by decide)) (takes_of rfl rfl rfl rfl) rfl (aa_cons (e_v (i := 1) rfl (by first | exact .inl rfl | exact .inr (.inl rfl) | exact .inr (.inr rfl)) (by decide) (by decide)) (aa_cons (e_v (i := 0) rfl (by first | exact .inl rfl | exact .inr (.inl rfl) | exact .inr (.inr rfl)) (by decide) (by decide)) aa_nil rfl) rfl) rfl) (fun _ => rfl)) (e_v (i := 1) rfl (by first | exact .inl rfl | exact .inr (.inl rfl) | exact .inr (.inr rfl)) (by decide) (by decide)) (e_v (i := 0) rfl (by first | exact .inl rfl | exact .inr (.inl rfl) | exact .inr (.inr rfl)) (by decide) (by decide)))) ss_nil)
def b_row_gives : List ST := [.asg (.tup [2, 3, 4]) (.v 0), .ret (.ite (.v 4) (.bin .sub (.bin .add (.v 3) (.v 1)) (.v 2)) (.v 3))]
def g_row_gives : Ctx := ⟨[], [], [], ["Rising"], []⟩
def f_row_gives : Fn := ⟨2, none, semB g_row_gives 5 none b_row_gives⟩
theorem sc_row_gives : FnScope ["row", "minute", "start", "value", "grows"] ["row", "minute"] (defScope (top 18)) := ⟨rfl, rfl, rfl, by decide +kernel, rfl, by decide +kernel, by decide +kernel⟩
theorem ok_row_gives {f : Addr} {fd : FuncData} (F : Fun K "row_gives" "row_gives" (top 18) f fd)  :
    FnOk P w K mg base (L2.CX P w) 1 f fd ["row", "minute"] (spF K 2 none (semB g_row_gives 5 none b_row_gives)) :=
  have S := sc_row_gives
  fn_body F S (by decide) fun cdv A outer s H E hr =>
    (ss_cons (st_asg (ps_asg (e_v (i := 0) rfl (by first | exact .inl rfl | exact .inr (.inl rfl) | exact .inr (.inr rfl)) (by decide) (by decide)) (pg_tl rfl (pgs_cons (pg_name (i := 2) S.nd rfl (by first | exact .inl rfl | exact .inr rfl) (by first | exact .inl rfl | exact .inr rfl)) (pgs_cons (pg_name (i := 3) S.nd rfl (by first | exact .inl rfl | exact .inr rfl) (by first | exact .inl rfl | exact .inr rfl)) (pgs_cons (pg_name (i := 4) S.nd rfl (by first | exact .inl rfl | exact .inr rfl) (by first | exact .inl rfl | exact .inr rfl)) pgs_nil)))) rfl rfl rfl)) (ss_cons (st_ret (e_ite (t_truth (e_v (i := 4) rfl (by first | exact .inl rfl | exact .inr (.inl rfl) | exact .inr (.inr rfl)) (by decide) (by decide)) (fun _ => rfl)) (x_sub (x_add (e_v (i := 3) rfl (by first | exact .inl rfl | exact .inr (.inl rfl) | exact .inr (.inr rfl)) (by decide) (by decide)) (e_v (i := 1) rfl (by first | exact .inl rfl | exact .inr (.inl rfl) | exact .inr (.inr rfl)) (by decide) (by decide))) (e_v (i := 2) rfl (by first | exact .inl rfl | exact .inr (.inl rfl) | exact .inr (.inr rfl)) (by decide) (by decide))) (e_v (i := 3) rfl (by first | exact .inl rfl | exact .inr (.inl rfl) | exact .inr (.inr rfl)) (by decide) (by decide)))) ss_nil))
def b_place_at : List ST := [.asg (.name 2) (.c (.int 0)), .asg (.name 3) (.blt .len [.v 0]), .whl (.cmp .gt (.bin .sub (.v 3) (.v 2)) (.c (.int 1))) [.asg (.name 4) (.bin .fdiv (.bin .add (.v 2) (.v 3)) (.c (.int 2))), .if_ (.cmp .le (.ix (.ix (.v 0) (.v 4)) (.c (.int 0))) (.v 1)) [.asg (.name 2) (.v 4)] [.asg (.name 3) (.v 4)]], .ret (.v 2)]
def g_place_at : Ctx := ⟨[], [], [], ["Rising"], []⟩
def f_place_at : Fn := ⟨2, none, semB g_place_at 5 none b_place_at⟩
theorem sc_place_at : FnScope ["rows", "minute", "low", "high", "middle"] ["rows", "minute"] (defScope (top 19)) := ⟨rfl, rfl, rfl, by decide +kernel, rfl, by decide +kernel, by decide +kernel⟩
theorem ok_place_at {f : Addr} {fd : FuncData} (F : Fun K "place_at" "place_at" (top 19) f fd) (z_len : mg "len" = none) :
    FnOk P w K mg base (L2.CX P w) 1 f fd ["rows", "minute"] (spF K 2 none (semB g_place_at 5 none b_place_at)) :=
  have S := sc_place_at
  fn_body F S (by decide) fun cdv A outer s H E hr =>
    (ss_cons (st_asg (ps_set (i := 2) S.nd rfl (by first | exact .inl rfl | exact .inr rfl) xi rfl (by first | exact .inl rfl | exact .inr rfl))) (ss_cons (st_asg (ps_set (i := 3) S.nd rfl (by first | exact .inl rfl | exact .inr rfl) (b_len z_len rfl (e_v (i := 0) rfl (by first | exact .inl rfl | exact .inr (.inl rfl) | exact .inr (.inr rfl)) (by decide) (by decide)) rfl) rfl (by first | exact .inl rfl | exact .inr rfl))) (ss_cons (st_whl (ps_while (passes_of rfl) (y_gt (x_sub (e_v (i := 3) rfl (by first | exact .inl rfl | exact .inr (.inl rfl) | exact .inr (.inr rfl)) (by decide) (by decide)) (e_v (i := 2) rfl (by first | exact .inl rfl | exact .inr (.inl rfl) | exact .inr (.inr rfl)) (by decide) (by decide))) xi) (ss_cons (st_asg (ps_set (i := 4) S.nd rfl (by first | exact .inl rfl | exact .inr rfl) (x_fdiv (x_add (e_v (i := 2) rfl (by first | exact .inl rfl | exact .inr (.inl rfl) | exact .inr (.inr rfl)) (by decide) (by decide)) (e_v (i := 3) rfl (by first | exact .inl rfl | exact .inr (.inl rfl) | exact .inr (.inr rfl)) (by decide) (by decide))) xi) rfl (by first | exact .inl rfl | exact .inr rfl))) (ss_cons (st_if (y_le (e_ix (e_ix (e_v (i := 0) rfl (by first | exact .inl rfl | exact .inr (.inl rfl) | exact .inr (.inr rfl)) (by decide) (by decide)) (e_v (i := 4) rfl (by first | exact .inl rfl | exact .inr (.inl rfl) | exact .inr (.inr rfl)) (by decide) (by decide)) (fun _ _ => rfl)) xi (fun _ _ => rfl)) (e_v (i := 1) rfl (by first | exact .inl rfl | exact .inr (.inl rfl) | exact .inr (.inr rfl)) (by decide) (by decide))) (ss_cons (st_asg (ps_set (i := 2) S.nd rfl (by first | exact .inl rfl | exact .inr rfl) (e_v (i := 4) rfl (by first | exact .inl rfl | exact .inr (.inl rfl) | exact .inr (.inr rfl)) (by decide) (by decide)) rfl (by first | exact .inl rfl | exact .inr rfl))) ss_nil) (ss_cons (st_asg (ps_set (i := 3) S.nd rfl (by first | exact .inl rfl | exact .inr rfl) (e_v (i := 4) rfl (by first | exact .inl rfl | exact .inr (.inl rfl) | exact .inr (.inr rfl)) (by decide) (by decide)) rfl (by first | exact .inl rfl | exact .inr rfl))) ss_nil)) ss_nil)))) (ss_cons (st_ret (e_v (i := 2) rfl (by first | exact .inl rfl | exact .inr (.inl rfl) | exact .inr (.inr rfl)) (by decide) (by decide))) ss_nil))))
def b_value_at : List ST := [.ret (.ite (.cmp .is_ (.v 1) (.c .non)) (.c .non) (.call 0 [.ix (.v 0) (.call 1 [.v 0, .v 1]), .v 1]))]
def g_value_at : Ctx := ⟨[f_row_gives, f_place_at], [], [], ["Rising"], []⟩
def f_value_at : Fn := ⟨2, none, semB g_value_at 2 none b_value_at⟩
theorem cl_value_at_0 {a0 a1 : IR} {env : Env} : ev g_value_at (.call 0 [a0, a1]) env = (evs g_value_at [a0, a1] env).bind fun ds e1 => runF e1 (f_row_gives.sem ds) := ev_call rfl rfl rfl
theorem cl_value_at_1 {a0 a1 : IR} {env : Env} : ev g_value_at (.call 1 [a0, a1]) env = (evs g_value_at [a0, a1] env).bind fun ds e1 => runF e1 (f_place_at.sem ds) := ev_call rfl rfl rfl
theorem sc_value_at : FnScope ["rows", "minute"] ["rows", "minute"] (defScope (top 20)) := ⟨rfl, rfl, rfl, by decide +kernel, rfl, by decide +kernel, by decide +kernel⟩
theorem ok_value_at {f : Addr} {fd : FuncData} (F : Fun K "value_at" "value_at" (top 20) f fd) (F_row_gives : FnF P w K mg base 1 "row_gives" f_row_gives) (F_place_at : FnF P w K mg base 1 "place_at" f_place_at) :
    FnOk P w K mg base (L2.CX P w) 2 f fd ["rows", "minute"] (spF K 2 none (semB g_value_at 2 none b_value_at)) :=
  have S := sc_value_at
  fn_body F S (by decide) fun cdv A outer s H E hr =>
    (ss_cons (st_ret (e_ite (y_is (e_v (i := 1) rfl (by first | exact .inl rfl | exact .inr (.inl rfl) | exact .inr (.inr rfl)) (by decide) (by decide)) xn) xn (e_call F_row_gives rfl (hr.mono (by decide)) (takes_of rfl rfl rfl rfl) rfl (aa_cons (e_ix (e_v (i := 0) rfl (by first | exact .inl rfl | exact .inr (.inl rfl) | exact .inr (.inr rfl)) (by decide) (by decide)) (e_call F_place_at rfl (hr.mono (by decide)) (takes_of rfl rfl rfl rfl) rfl (aa_cons (e_v (i := 0) rfl (by first | exact .inl rfl | exact .inr (.inl rfl) | exact .inr (.inr rfl)) (by decide) (by decide)) (aa_cons (e_v (i := 1) rfl (by first | exact .inl rfl | exact .inr (.inl rfl) | exact .inr (.inr rfl)) (by decide) (by decide)) aa_nil rfl) rfl) rfl) (fun _ _ => rfl)) (aa_cons (e_v (i := 1) rfl (by first | exact .inl rfl | exact .inr (.inl rfl) | exact .inr (.inr rfl)) (by decide) (by decide)) aa_nil rfl) rfl) rfl))) ss_nil)
def b_end_of : List ST := [.ret (.ite (.cmp .lt (.bin .add (.v 1) (.c (.int 1))) (.blt .len [.v 0])) (.ix (.ix (.v 0) (.bin .add (.v 1) (.c (.int 1)))) (.c (.int 0))) (.c .non))]
def g_end_of : Ctx := ⟨[], [], [], ["Rising"], []⟩
def f_end_of : Fn := ⟨2, none, semB g_end_of 2 none b_end_of⟩
theorem sc_end_of : FnScope ["rows", "place"] ["rows", "place"] (defScope (top 21)) := ⟨rfl, rfl, rfl, by decide +kernel, rfl, by decide +kernel, by decide +kernel⟩
theorem ok_end_of {f : Addr} {fd : FuncData} (F : Fun K "end_of" "end_of" (top 21) f fd) (z_len : mg "len" = none) :
    FnOk P w K mg base (L2.CX P w) 1 f fd ["rows", "place"] (spF K 2 none (semB g_end_of 2 none b_end_of)) :=
  have S := sc_end_of
  fn_body F S (by decide) fun cdv A outer s H E hr =>
    (ss_cons (st_ret (e_ite (y_lt (x_add (e_v (i := 1) rfl (by first | exact .inl rfl | exact .inr (.inl rfl) | exact .inr (.inr rfl)) (by decide) (by decide)) xi) (b_len z_len rfl (e_v (i := 0) rfl (by first | exact .inl rfl | exact .inr (.inl rfl) | exact .inr (.inr rfl)) (by decide) (by decide)) rfl)) (e_ix (e_ix (e_v (i := 0) rfl (by first | exact .inl rfl | exact .inr (.inl rfl) | exact .inr (.inr rfl)) (by decide) (by decide)) (x_add (e_v (i := 1) rfl (by first | exact .inl rfl | exact .inr (.inl rfl) | exact .inr (.inr rfl)) (by decide) (by decide)) xi) (fun _ _ => rfl)) xi (fun _ _ => rfl)) xn)) ss_nil)
def b_is_row : List ST := [.ret (.and_ (.isin (.v 0) [.tuple]) (.and_ (.cmp .eq (.blt .len [.v 0]) (.c (.int 3))) (.and_ (.call 0 [.ix (.v 0) (.c (.int 0))]) (.and_ (.or_ (.cmp .is_ (.ix (.v 0) (.c (.int 1))) (.c .non)) (.call 0 [.ix (.v 0) (.c (.int 1))])) (.isin (.ix (.v 0) (.c (.int 2))) [.bool])))))]
def g_is_row : Ctx := ⟨[f_is_whole], [], [], ["Rising"], []⟩
def f_is_row : Fn := ⟨1, none, semB g_is_row 1 none b_is_row⟩
theorem sc_is_row : FnScope ["row"] ["row"] (defScope (top 22)) := ⟨rfl, rfl, rfl, by decide +kernel, rfl, by decide +kernel, by decide +kernel⟩
theorem ok_is_row {f : Addr} {fd : FuncData} (F : Fun K "is_row" "is_row" (top 22) f fd) (F_is_whole : FnF P w K mg base 1 "is_whole" f_is_whole) (z_isinstance : mg "isinstance" = none) (z_tuple : mg "tuple" = none) (z_len : mg "len" = none) (z_bool : mg "bool" = none) (hC : ∀ C, C ∈ (["Rising"] : List Str) → IsC K C) (K_tuple : IsK K ["Rising"] .tuple (.type "tuple")) (K_bool : IsK K ["Rising"] .bool (.type "bool")) :
    FnOk P w K mg base (L2.CX P w) 2 f fd ["row"] (spF K 1 none (semB g_is_row 1 none b_is_row)) :=
  have S := sc_is_row
  fn_body F S (by decide) fun cdv A outer s H E hr =>
    (ss_cons (st_ret (e_and (e_isin1 hC K_tuple (.ty "tuple") (e_v (i := 0) rfl (by first | exact .inl rfl | exact .inr (.inl rfl) | exact .inr (.inr rfl)) (by decide) (by decide)) (pe_bltn rfl z_tuple (by decide +kernel) rfl) rfl z_isinstance rfl rfl) (e_and (x_eq (hu64 hr) (b_len z_len rfl (e_v (i := 0) rfl (by first | exact .inl rfl | exact .inr (.inl rfl) | exact .inr (.inr rfl)) (by decide) (by decide)) rfl) xi) (e_and (e_call F_is_whole rfl (hr.mono (by decide)) (takes_of rfl rfl rfl rfl) rfl (aa_cons (e_ix (e_v (i := 0) rfl (by first | exact .inl rfl | exact .inr (.inl rfl) | exact .inr (.inr rfl)) (by decide) (by decide)) xi (fun _ _ => rfl)) aa_nil rfl) rfl) (e_and (e_or (x_is (e_ix (e_v (i := 0) rfl (by first | exact .inl rfl | exact .inr (.inl rfl) | exact .inr (.inr rfl)) (by decide) (by decide)) xi (fun _ _ => rfl)) xn) (pe_one (e_call F_is_whole rfl (hr.mono (by decide)) (takes_of rfl rfl rfl rfl) rfl (aa_cons (e_ix (e_v (i := 0) rfl (by first | exact .inl rfl | exact .inr (.inl rfl) | exact .inr (.inr rfl)) (by decide) (by decide)) xi (fun _ _ => rfl)) aa_nil rfl) rfl))) (pe_one (e_isin1 hC K_bool (.ty "bool") (e_ix (e_v (i := 0) rfl (by first | exact .inl rfl | exact .inr (.inl rfl) | exact .inr (.inr rfl)) (by decide) (by decide)) xi (fun _ _ => rfl)) (pe_bltn rfl z_bool (by decide +kernel) rfl) rfl z_isinstance rfl rfl))))))) ss_nil)
def b_is_right_alone : List ST := [.asg (.tup [1, 2, 3]) (.v 0), .ret (.ite (.cmp .is_ (.v 2) (.c .non)) (.not_ (.v 3)) (.cmp .ge (.v 2) (.v 1)))]
def g_is_right_alone : Ctx := ⟨[], [], [], ["Rising"], []⟩
def f_is_right_alone : Fn := ⟨1, none, semB g_is_right_alone 4 none b_is_right_alone⟩
theorem sc_is_right_alone : FnScope ["row", "start", "value", "grows"] ["row"] (defScope (top 23)) := ⟨rfl, rfl, rfl, by decide +kernel, rfl, by decide +kernel, by decide +kernel⟩
theorem ok_is_right_alone {f : Addr} {fd : FuncData} (F : Fun K "is_right_alone" "is_right_alone" (top 23) f fd)  :
    FnOk P w K mg base (L2.CX P w) 1 f fd ["row"] (spF K 1 none (semB g_is_right_alone 4 none b_is_right_alone)) :=
  have S := sc_is_right_alone
  fn_body F S (by decide) fun cdv A outer s H E hr =>
    (ss_cons (st_asg (ps_asg (e_v (i := 0) rfl (by first | exact .inl rfl | exact .inr (.inl rfl) | exact .inr (.inr rfl)) (by decide) (by decide)) (pg_tl rfl (pgs_cons (pg_name (i := 1) S.nd rfl (by first | exact .inl rfl | exact .inr rfl) (by first | exact .inl rfl | exact .inr rfl)) (pgs_cons (pg_name (i := 2) S.nd rfl (by first | exact .inl rfl | exact .inr rfl) (by first | exact .inl rfl | exact .inr rfl)) (pgs_cons (pg_name (i := 3) S.nd rfl (by first | exact .inl rfl | exact .inr rfl) (by first | exact .inl rfl | exact .inr rfl)) pgs_nil)))) rfl rfl rfl)) (ss_cons (st_ret (e_ite (y_is (e_v (i := 2) rfl (by first | exact .inl rfl | exact .inr (.inl rfl) | exact .inr (.inr rfl)) (by decide) (by decide)) xn) (e_not (e_v (i := 3) rfl (by first | exact .inl rfl | exact .inr (.inl rfl) | exact .inr (.inr rfl)) (by decide) (by decide))) (x_ge (e_v (i := 2) rfl (by first | exact .inl rfl | exact .inr (.inl rfl) | exact .inr (.inr rfl)) (by decide) (by decide)) (e_v (i := 1) rfl (by first | exact .inl rfl | exact .inr (.inl rfl) | exact .inr (.inr rfl)) (by decide) (by decide))))) ss_nil))
def b_is_right_behind : List ST := [.asg (.name 2) (.ix (.v 0) (.c (.int 0))), .if_ (.cmp .le (.v 2) (.ix (.v 1) (.c (.int 0)))) [.ret (.c (.bl false))] [], .asg (.name 3) (.call 0 [.v 1, .bin .sub (.v 2) (.c (.int 1))]), .ret (.and_ (.not_ (.call 1 [.v 3, .bin .sub (.v 2) (.c (.int 1))])) (.not_ (.call 1 [.ix (.v 0) (.c (.int 1)), .v 3])))]
def g_is_right_behind : Ctx := ⟨[f_row_gives, f_is_less], [], [], ["Rising"], []⟩
def f_is_right_behind : Fn := ⟨2, none, semB g_is_right_behind 4 none b_is_right_behind⟩
theorem cl_is_right_behind_0 {a0 a1 : IR} {env : Env} : ev g_is_right_behind (.call 0 [a0, a1]) env = (evs g_is_right_behind [a0, a1] env).bind fun ds e1 => runF e1 (f_row_gives.sem ds) := ev_call rfl rfl rfl
theorem cl_is_right_behind_1 {a0 a1 : IR} {env : Env} : ev g_is_right_behind (.call 1 [a0, a1]) env = (evs g_is_right_behind [a0, a1] env).bind fun ds e1 => runF e1 (f_is_less.sem ds) := ev_call rfl rfl rfl
theorem sc_is_right_behind : FnScope ["row", "ahead", "start", "before"] ["row", "ahead"] (defScope (top 24)) := ⟨rfl, rfl, rfl, by decide +kernel, rfl, by decide +kernel, by decide +kernel⟩
theorem ok_is_right_behind {f : Addr} {fd : FuncData} (F : Fun K "is_right_behind" "is_right_behind" (top 24) f fd) (F_row_gives : FnF P w K mg base 1 "row_gives" f_row_gives) (F_is_less : FnF P w K mg base 1 "is_less" f_is_less) :
    FnOk P w K mg base (L2.CX P w) 2 f fd ["row", "ahead"] (spF K 2 none (semB g_is_right_behind 4 none b_is_right_behind)) :=
  have S := sc_is_right_behind
  fn_body F S (by decide) fun cdv A outer s H E hr =>
    (ss_cons (st_asg (ps_set (i := 2) S.nd rfl (by first | exact .inl rfl | exact .inr rfl) (e_ix (e_v (i := 0) rfl (by first | exact .inl rfl | exact .inr (.inl rfl) | exact .inr (.inr rfl)) (by decide) (by decide)) xi (fun _ _ => rfl)) rfl (by first | exact .inl rfl | exact .inr rfl))) (ss_cons (st_if (y_le (e_v (i := 2) rfl (by first | exact .inl rfl | exact .inr (.inl rfl) | exact .inr (.inr rfl)) (by decide) (by decide)) (e_ix (e_v (i := 1) rfl (by first | exact .inl rfl | exact .inr (.inl rfl) | exact .inr (.inr rfl)) (by decide) (by decide)) xi (fun _ _ => rfl))) (ss_cons (st_ret xb) ss_nil) ss_nil) (ss_cons (st_asg (ps_set (i := 3) S.nd rfl (by first | exact .inl rfl | exact .inr rfl) (e_call F_row_gives rfl (hr.mono (by decide)) (takes_of rfl rfl rfl rfl) rfl (aa_cons (e_v (i := 1) rfl (by first | exact .inl rfl | exact .inr (.inl rfl) | exact .inr (.inr rfl)) (by decide) (by decide)) (aa_cons (x_sub (e_v (i := 2) rfl (by first | exact .inl rfl | exact .inr (.inl rfl) | exact .inr (.inr rfl)) (by decide) (by decide)) xi) aa_nil rfl) rfl) rfl) rfl (by first | exact .inl rfl | exact .inr rfl))) (ss_cons (st_ret (e_and (e_not (e_call F_is_less rfl (hr.mono (by decide)) (takes_of rfl rfl rfl rfl) rfl (aa_cons (e_v (i := 3) rfl (by first | exact .inl rfl | exact .inr (.inl rfl) | exact .inr (.inr rfl)) (by decide) (by decide)) (aa_cons (x_sub (e_v (i := 2) rfl (by first | exact .inl rfl | exact .inr (.inl rfl) | exact .inr (.inr rfl)) (by decide) (by decide)) xi) aa_nil rfl) rfl) rfl)) (pe_one (e_not (e_call F_is_less rfl (hr.mono (by decide)) (takes_of rfl rfl rfl rfl) rfl (aa_cons (e_ix (e_v (i := 0) rfl (by first | exact .inl rfl | exact .inr (.inl rfl) | exact .inr (.inr rfl)) (by decide) (by decide)) xi (fun _ _ => rfl)) (aa_cons (e_v (i := 3) rfl (by first | exact .inl rfl | exact .inr (.inl rfl) | exact .inr (.inr rfl)) (by decide) (by decide)) aa_nil rfl) rfl) rfl))))) ss_nil))))
def b_first_wrong : List ST := [.for_ (.tup [1, 2]) (.enum (.v 0)) [.if_ (.or_ (.not_ (.call 0 [.v 2])) (.not_ (.call 1 [.v 2]))) [.ret (.v 1)] [], .if_ (.and_ (.cmp .eq (.v 1) (.c (.int 0))) (.cmp .ne (.ix (.v 2) (.c (.int 0))) (.c (.int 0)))) [.ret (.v 1)] [], .if_ (.and_ (.cmp .gt (.v 1) (.c (.int 0))) (.not_ (.call 2 [.v 2, .ix (.v 0) (.bin .sub (.v 1) (.c (.int 1)))]))) [.ret (.v 1)] []], .asg (.tup [3, 4, 5]) (.ix (.v 0) (.neg (.c (.int 1)))), .ret (.ite (.or_ (.cmp .is_ (.v 4) (.c .non)) (.v 5)) (.c .non) (.bin .sub (.blt .len [.v 0]) (.c (.int 1))))]
def g_first_wrong : Ctx := ⟨[f_is_row, f_is_right_alone, f_is_right_behind], [], [], ["Rising"], []⟩
def f_first_wrong : Fn := ⟨1, none, semB g_first_wrong 6 none b_first_wrong⟩
theorem cl_first_wrong_0 {a0 : IR} {env : Env} : ev g_first_wrong (.call 0 [a0]) env = (evs g_first_wrong [a0] env).bind fun ds e1 => runF e1 (f_is_row.sem ds) := ev_call rfl rfl rfl
theorem cl_first_wrong_1 {a0 : IR} {env : Env} : ev g_first_wrong (.call 1 [a0]) env = (evs g_first_wrong [a0] env).bind fun ds e1 => runF e1 (f_is_right_alone.sem ds) := ev_call rfl rfl rfl
theorem cl_first_wrong_2 {a0 a1 : IR} {env : Env} : ev g_first_wrong (.call 2 [a0, a1]) env = (evs g_first_wrong [a0, a1] env).bind fun ds e1 => runF e1 (f_is_right_behind.sem ds) := ev_call rfl rfl rfl
theorem sc_first_wrong : FnScope ["rows", "place", "row", "_", "value", "grows"] ["rows"] (defScope (top 25)) := ⟨rfl, rfl, rfl, by decide +kernel, rfl, by decide +kernel, by decide +kernel⟩
theorem ok_first_wrong {f : Addr} {fd : FuncData} (F : Fun K "first_wrong" "first_wrong" (top 25) f fd) (F_is_row : FnF P w K mg base 2 "is_row" f_is_row) (F_is_right_alone : FnF P w K mg base 1 "is_right_alone" f_is_right_alone) (F_is_right_behind : FnF P w K mg base 2 "is_right_behind" f_is_right_behind) (z_enumerate : mg "enumerate" = none) (z_len : mg "len" = none) :
    FnOk P w K mg base (L2.CX P w) 3 f fd ["rows"] (spF K 1 none (semB g_first_wrong 6 none b_first_wrong)) :=
  have S := sc_first_wrong
  fn_body F S (by decide) fun cdv A outer s H E hr =>
    (ss_cons (st_for (ps_for (passes_of rfl) rfl (i_enum rfl z_enumerate (e_v (i := 0) rfl (by first | exact .inl rfl | exact .inr (.inl rfl) | exact .inr (.inr rfl)) (by decide) (by decide)) rfl) (pg_tl rfl (pgs_cons (pg_name (i := 1) S.nd rfl (by first | exact .inl rfl | exact .inr rfl) (by first | exact .inl rfl | exact .inr rfl)) (pgs_cons (pg_name (i := 2) S.nd rfl (by first | exact .inl rfl | exact .inr rfl) (by first | exact .inl rfl | exact .inr rfl)) pgs_nil))) (ss_cons (st_if (PW.pt (w_or (t_not (t_truth (e_call F_is_row rfl (hr.mono (by decide)) (takes_of rfl rfl rfl rfl) rfl (aa_cons (e_v (i := 2) rfl (by first | exact .inl rfl | exact .inr (.inl rfl) | exact .inr (.inr rfl)) (by decide) (by decide)) aa_nil rfl) rfl) (fun _ => rfl))) (w_or1 (t_not (t_truth (e_call F_is_right_alone rfl (hr.mono (by decide)) (takes_of rfl rfl rfl rfl) rfl (aa_cons (e_v (i := 2) rfl (by first | exact .inl rfl | exact .inr (.inl rfl) | exact .inr (.inr rfl)) (by decide) (by decide)) aa_nil rfl) rfl) (fun _ => rfl)))))) (ss_cons (st_ret (e_v (i := 1) rfl (by first | exact .inl rfl | exact .inr (.inl rfl) | exact .inr (.inr rfl)) (by decide) (by decide))) ss_nil) ss_nil) (ss_cons (st_if (PW.pt (w_and (y_eq (hu64 hr) (e_v (i := 1) rfl (by first | exact .inl rfl | exact .inr (.inl rfl) | exact .inr (.inr rfl)) (by decide) (by decide)) xi) (w_and1 (y_ne (hu64 hr) (e_ix (e_v (i := 2) rfl (by first | exact .inl rfl | exact .inr (.inl rfl) | exact .inr (.inr rfl)) (by decide) (by decide)) xi (fun _ _ => rfl)) xi)))) (ss_cons (st_ret (e_v (i := 1) rfl (by first | exact .inl rfl | exact .inr (.inl rfl) | exact .inr (.inr rfl)) (by decide) (by decide))) ss_nil) ss_nil) (ss_cons (st_if (PW.pt (w_and (y_gt (e_v (i := 1) rfl (by first | exact .inl rfl | exact .inr (.inl rfl) | exact .inr (.inr rfl)) (by decide) (by decide)) xi) (w_and1 (t_not (t_truth (e_call F_is_right_behind rfl (hr.mono (by decide)) (takes_of rfl rfl rfl rfl) rfl (aa_cons (e_v (i := 2) rfl (by first | exact .inl rfl | exact .inr (.inl rfl) | exact .inr (.inr rfl)) (by decide) (by decide)) (aa_cons (e_ix (e_v (i := 0) rfl (by first | exact .inl rfl | exact .inr (.inl rfl) | exact .inr (.inr rfl)) (by decide) (by decide)) (x_sub (e_v (i := 1) rfl (by first | exact .inl rfl | exact .inr (.inl rfl) | exact .inr (.inr rfl)) (by decide) (by decide)) xi) (fun _ _ => rfl)) aa_nil rfl) rfl) rfl) (fun _ => rfl)))))) (ss_cons (st_ret (e_v (i := 1) rfl (by first | exact .inl rfl | exact .inr (.inl rfl) | exact .inr (.inr rfl)) (by decide) (by decide))) ss_nil) ss_nil) ss_nil))) (fun _ => rfl))) (ss_cons (st_asg (ps_asg (e_ix (e_v (i := 0) rfl (by first | exact .inl rfl | exact .inr (.inl rfl) | exact .inr (.inr rfl)) (by decide) (by decide)) (e_neg xi) (fun _ _ => rfl)) (pg_tl rfl (pgs_cons (pg_name (i := 3) S.nd rfl (by first | exact .inl rfl | exact .inr rfl) (by first | exact .inl rfl | exact .inr rfl)) (pgs_cons (pg_name (i := 4) S.nd rfl (by first | exact .inl rfl | exact .inr rfl) (by first | exact .inl rfl | exact .inr rfl)) (pgs_cons (pg_name (i := 5) S.nd rfl (by first | exact .inl rfl | exact .inr rfl) (by first | exact .inl rfl | exact .inr rfl)) pgs_nil)))) rfl rfl rfl)) (ss_cons (st_ret (e_ite (PW.pt (w_or (y_is (e_v (i := 4) rfl (by first | exact .inl rfl | exact .inr (.inl rfl) | exact .inr (.inr rfl)) (by decide) (by decide)) xn) (w_or1 (t_truth (e_v (i := 5) rfl (by first | exact .inl rfl | exact .inr (.inl rfl) | exact .inr (.inr rfl)) (by decide) (by decide)) (fun _ => rfl))))) xn (x_sub (b_len z_len rfl (e_v (i := 0) rfl (by first | exact .inl rfl | exact .inr (.inl rfl) | exact .inr (.inr rfl)) (by decide) (by decide)) rfl) xi))) ss_nil)))
def b_first_minutes : List ST := [.ret (.lrng2 (.v 0) (.ite (.cmp .is_ (.v 1) (.c .non)) (.bin .add (.v 0) (.c (.int 3))) (.blt .min2 [.blt .int [.v 1], .bin .add (.v 0) (.c (.int 3))])))]
def g_first_minutes : Ctx := ⟨[], [], [], ["Rising"], []⟩
def f_first_minutes : Fn := ⟨2, none, semB g_first_minutes 2 none b_first_minutes⟩
theorem sc_first_minutes : FnScope ["start", "end"] ["start", "end"] (defScope (top 26)) := ⟨rfl, rfl, rfl, by decide +kernel, rfl, by decide +kernel, by decide +kernel⟩
theorem ok_first_minutes {f : Addr} {fd : FuncData} (F : Fun K "first_minutes" "first_minutes" (top 26) f fd) (z_list : mg "list" = none) (z_range : mg "range" = none) (z_min : mg "min" = none) (z_int : mg "int" = none) :
    FnOk P w K mg base (L2.CX P w) 1 f fd ["start", "end"] (spF K 2 none (semB g_first_minutes 2 none b_first_minutes)) :=
  have S := sc_first_minutes
  fn_body F S (by decide) fun cdv A outer s H E hr =>
    (ss_cons (st_ret (e_lrng2 rfl rfl z_list rfl z_range (e_v (i := 0) rfl (by first | exact .inl rfl | exact .inr (.inl rfl) | exact .inr (.inr rfl)) (by decide) (by decide)) (e_ite (y_is (e_v (i := 1) rfl (by first | exact .inl rfl | exact .inr (.inl rfl) | exact .inr (.inr rfl)) (by decide) (by decide)) xn) (x_add (e_v (i := 0) rfl (by first | exact .inl rfl | exact .inr (.inl rfl) | exact .inr (.inr rfl)) (by decide) (by decide)) xi) (b_min rfl z_min rfl (b_int z_int rfl (e_v (i := 1) rfl (by first | exact .inl rfl | exact .inr (.inl rfl) | exact .inr (.inr rfl)) (by decide) (by decide)) rfl) (x_add (e_v (i := 0) rfl (by first | exact .inl rfl | exact .inr (.inl rfl) | exact .inr (.inr rfl)) (by decide) (by decide)) xi) rfl rfl)) rfl rfl)) ss_nil)
def b_widened : List ST := [.asg (.tup [3, 4, 5]) (.v 0), .if_ (.cmp .eq (.call 0 [.v 0, .v 1]) (.v 2)) [.ret (.v 0)] [], .if_ (.and_ (.cmp .eq (.v 1) (.bin .add (.v 3) (.c (.int 1)))) (.and_ (.cmp .isnot (.v 4) (.c .non)) (.cmp .eq (.v 2) (.bin .add (.v 4) (.c (.int 1)))))) [.ret (.tup [.v 3, .v 4, .c (.bl true)])] [], .ret (.c .non)]
def g_widened : Ctx := ⟨[f_row_gives], [], [], ["Rising"], []⟩
def f_widened : Fn := ⟨3, none, semB g_widened 6 none b_widened⟩
theorem cl_widened_0 {a0 a1 : IR} {env : Env} : ev g_widened (.call 0 [a0, a1]) env = (evs g_widened [a0, a1] env).bind fun ds e1 => runF e1 (f_row_gives.sem ds) := ev_call rfl rfl rfl
theorem sc_widened : FnScope ["row", "minute", "value", "start", "first", "_"] ["row", "minute", "value"] (defScope (top 27)) := ⟨rfl, rfl, rfl, by decide +kernel, rfl, by decide +kernel, by decide +kernel⟩
theorem ok_widened {f : Addr} {fd : FuncData} (F : Fun K "widened" "widened" (top 27) f fd) (F_row_gives : FnF P w K mg base 1 "row_gives" f_row_gives) :
    FnOk P w K mg base (L2.CX P w) 2 f fd ["row", "minute", "value"] (spF K 3 none (semB g_widened 6 none b_widened)) :=
  have S := sc_widened
  fn_body F S (by decide) fun cdv A outer s H E hr =>
    (ss_cons (st_asg (ps_asg (e_v (i := 0) rfl (by first | exact .inl rfl | exact .inr (.inl rfl) | exact .inr (.inr rfl)) (by decide) (by decide)) (pg_tl rfl (pgs_cons (pg_name (i := 3) S.nd rfl (by first | exact .inl rfl | exact .inr rfl) (by first | exact .inl rfl | exact .inr rfl)) (pgs_cons (pg_name (i := 4) S.nd rfl (by first | exact .inl rfl | exact .inr rfl) (by first | exact .inl rfl | exact .inr rfl)) (pgs_cons (pg_name (i := 5) S.nd rfl (by first | exact .inl rfl | exact .inr rfl) (by first | exact .inl rfl | exact .inr rfl)) pgs_nil)))) rfl rfl rfl)) (ss_cons (st_if (y_eq (hu64 hr) (e_call F_row_gives rfl (hr.mono (by decide)) (takes_of rfl rfl rfl rfl) rfl (aa_cons (e_v (i := 0) rfl (by first | exact .inl rfl | exact .inr (.inl rfl) | exact .inr (.inr rfl)) (by decide) (by decide)) (aa_cons (e_v (i := 1) rfl (by first | exact .inl rfl | exact .inr (.inl rfl) | exact .inr (.inr rfl)) (by decide) (by decide)) aa_nil rfl) rfl) rfl) (e_v (i := 2) rfl (by first | exact .inl rfl | exact .inr (.inl rfl) | exact .inr (.inr rfl)) (by decide) (by decide))) (ss_cons (st_ret (e_v (i := 0) rfl (by first | exact .inl rfl | exact .inr (.inl rfl) | exact .inr (.inr rfl)) (by decide) (by decide))) ss_nil) ss_nil) (ss_cons (st_if (PW.pt (w_and (y_eq (hu64 hr) (e_v (i := 1) rfl (by first | exact .inl rfl | exact .inr (.inl rfl) | exact .inr (.inr rfl)) (by decide) (by decide)) (x_add (e_v (i := 3) rfl (by first | exact .inl rfl | exact .inr (.inl rfl) | exact .inr (.inr rfl)) (by decide) (by decide)) xi)) (w_and (y_isnot (e_v (i := 4) rfl (by first | exact .inl rfl | exact .inr (.inl rfl) | exact .inr (.inr rfl)) (by decide) (by decide)) xn) (w_and1 (y_eq (hu64 hr) (e_v (i := 2) rfl (by first | exact .inl rfl | exact .inr (.inl rfl) | exact .inr (.inr rfl)) (by decide) (by decide)) (x_add (e_v (i := 4) rfl (by first | exact .inl rfl | exact .inr (.inl rfl) | exact .inr (.inr rfl)) (by decide) (by decide)) xi)))))) (ss_cons (st_ret (e_tup (as_cons (e_v (i := 3) rfl (by first | exact .inl rfl | exact .inr (.inl rfl) | exact .inr (.inr rfl)) (by decide) (by decide)) (as_cons (e_v (i := 4) rfl (by first | exact .inl rfl | exact .inr (.inl rfl) | exact .inr (.inr rfl)) (by decide) (by decide)) (as_cons xb as_nil rfl) rfl) rfl))) ss_nil) ss_nil) (ss_cons (st_ret xn) ss_nil))))
def b_told_rows : List ST := [.new 1 (.lst []), .for_ (.tup [2, 3]) (.enum (.v 0)) [.for_ (.name 4) (.seq (.call 0 [.ix (.v 3) (.c (.int 0)), .call 1 [.v 0, .v 2]])) [.asg (.name 5) (.call 2 [.v 3, .v 4]), .asg (.name 6) (.ite (.v 1) (.call 3 [.ix (.v 1) (.neg (.c (.int 1))), .v 4, .v 5]) (.c .non)), .if_ (.cmp .is_ (.v 6) (.c .non)) [.expr (.app 1 (.tup [.v 4, .v 5, .c (.bl false)]))] [.setL 1 (.neg (.c (.int 1))) (.v 6)]]], .ret (.blt .tuple [.v 1])]
def g_told_rows : Ctx := ⟨[f_first_minutes, f_end_of, f_row_gives, f_widened], [], [], ["Rising"], []⟩
def f_told_rows : Fn := ⟨1, none, semB g_told_rows 7 none b_told_rows⟩
theorem cl_told_rows_0 {a0 a1 : IR} {env : Env} : ev g_told_rows (.call 0 [a0, a1]) env = (evs g_told_rows [a0, a1] env).bind fun ds e1 => runF e1 (f_first_minutes.sem ds) := ev_call rfl rfl rfl
theorem cl_told_rows_1 {a0 a1 : IR} {env : Env} : ev g_told_rows (.call 1 [a0, a1]) env = (evs g_told_rows [a0, a1] env).bind fun ds e1 => runF e1 (f_end_of.sem ds) := ev_call rfl rfl rfl
theorem cl_told_rows_2 {a0 a1 : IR} {env : Env} : ev g_told_rows (.call 2 [a0, a1]) env = (evs g_told_rows [a0, a1] env).bind fun ds e1 => runF e1 (f_row_gives.sem ds) := ev_call rfl rfl rfl
theorem cl_told_rows_3 {a0 a1 a2 : IR} {env : Env} : ev g_told_rows (.call 3 [a0, a1, a2]) env = (evs g_told_rows [a0, a1, a2] env).bind fun ds e1 => runF e1 (f_widened.sem ds) := ev_call rfl rfl rfl
theorem sc_told_rows : FnScope ["rows", "told", "place", "row", "minute", "value", "wider"] ["rows"] (defScope (top 28)) := ⟨rfl, rfl, rfl, by decide +kernel, rfl, by decide +kernel, by decide +kernel⟩
theorem ok_told_rows {f : Addr} {fd : FuncData} (F : Fun K "told_rows" "told_rows" (top 28) f fd) (F_first_minutes : FnF P w K mg base 1 "first_minutes" f_first_minutes) (F_end_of : FnF P w K mg base 1 "end_of" f_end_of) (F_row_gives : FnF P w K mg base 1 "row_gives" f_row_gives) (F_widened : FnF P w K mg base 2 "widened" f_widened) (z_enumerate : mg "enumerate" = none) (z_tuple : mg "tuple" = none) :
    FnOk P w K mg base (L2.CX P w) 3 f fd ["rows"] (spF K 1 none (semB g_told_rows 7 none b_told_rows)) :=
  have S := sc_told_rows
  fn_body F S (by decide) fun cdv A outer s H E hr =>
    (ss_cons (st_new (ps_set (i := 1) S.nd rfl (by first | exact .inl rfl | exact .inr rfl) (l_lst as_nil) rfl (by first | exact .inl rfl | exact .inr rfl))) (ss_cons (st_for (ps_for (passes_of rfl) rfl (i_enum rfl z_enumerate (e_v (i := 0) rfl (by first | exact .inl rfl | exact .inr (.inl rfl) | exact .inr (.inr rfl)) (by decide) (by decide)) rfl) (pg_tl rfl (pgs_cons (pg_name (i := 2) S.nd rfl (by first | exact .inl rfl | exact .inr rfl) (by first | exact .inl rfl | exact .inr rfl)) (pgs_cons (pg_name (i := 3) S.nd rfl (by first | exact .inl rfl | exact .inr rfl) (by first | exact .inl rfl | exact .inr rfl)) pgs_nil))) (ss_cons (st_for (ps_for (passes_of rfl) rfl (i_seq (e_call F_first_minutes rfl (hr.mono (by decide)) (takes_of rfl rfl rfl rfl) rfl (aa_cons (e_ix (e_v (i := 3) rfl (by first | exact .inl rfl | exact .inr (.inl rfl) | exact .inr (.inr rfl)) (by decide) (by decide)) xi (fun _ _ => rfl)) (aa_cons (e_call F_end_of rfl (hr.mono (by decide)) (takes_of rfl rfl rfl rfl) rfl (aa_cons (e_v (i := 0) rfl (by first | exact .inl rfl | exact .inr (.inl rfl) | exact .inr (.inr rfl)) (by decide) (by decide)) (aa_cons (e_v (i := 2) rfl (by first | exact .inl rfl | exact .inr (.inl rfl) | exact .inr (.inr rfl)) (by decide) (by decide)) aa_nil rfl) rfl) rfl) aa_nil rfl) rfl) rfl)) (pg_name (i := 4) S.nd rfl (by first | exact .inl rfl | exact .inr rfl) (by first | exact .inl rfl | exact .inr rfl)) (ss_cons (st_asg (ps_set (i := 5) S.nd rfl (by first | exact .inl rfl | exact .inr rfl) (e_call F_row_gives rfl (hr.mono (by decide)) (takes_of rfl rfl rfl rfl) rfl (aa_cons (e_v (i := 3) rfl (by first | exact .inl rfl | exact .inr (.inl rfl) | exact .inr (.inr rfl)) (by decide) (by decide)) (aa_cons (e_v (i := 4) rfl (by first | exact .inl rfl | exact .inr (.inl rfl) | exact .inr (.inr rfl)) (by decide) (by decide)) aa_nil rfl) rfl) rfl) rfl (by first | exact .inl rfl | exact .inr rfl))) (ss_cons (st_asg (ps_set (i := 6) S.nd rfl (by first | exact .inl rfl | exact .inr rfl) (e_ite (t_truth (e_v (i := 1) rfl (by first | exact .inl rfl | exact .inr (.inl rfl) | exact .inr (.inr rfl)) (by decide) (by decide)) (fun _ => rfl)) (e_call F_widened rfl (hr.mono (by decide)) (takes_of rfl rfl rfl rfl) rfl (aa_cons (e_ix (e_v (i := 1) rfl (by first | exact .inl rfl | exact .inr (.inl rfl) | exact .inr (.inr rfl)) (by decide) (by decide)) (e_neg xi) (fun _ _ => rfl)) (aa_cons (e_v (i := 4) rfl (by first | exact .inl rfl | exact .inr (.inl rfl) | exact .inr (.inr rfl)) (by decide) (by decide)) (aa_cons (e_v (i := 5) rfl (by first | exact .inl rfl | exact .inr (.inl rfl) | exact .inr (.inr rfl)) (by decide) (by decide)) aa_nil rfl) rfl) rfl) rfl) xn) rfl (by first | exact .inl rfl | exact .inr rfl))) (ss_cons (st_if (y_is (e_v (i := 6) rfl (by first | exact .inl rfl | exact .inr (.inl rfl) | exact .inr (.inr rfl)) (by decide) (by decide)) xn) (ss_cons (st_expr (e_app (i := 1) rfl (by first | exact .inl rfl | exact .inr (.inl rfl) | exact .inr (.inr rfl)) (by decide) (by decide) (e_tup (as_cons (e_v (i := 4) rfl (by first | exact .inl rfl | exact .inr (.inl rfl) | exact .inr (.inr rfl)) (by decide) (by decide)) (as_cons (e_v (i := 5) rfl (by first | exact .inl rfl | exact .inr (.inl rfl) | exact .inr (.inr rfl)) (by decide) (by decide)) (as_cons xb as_nil rfl) rfl) rfl)) rfl (by rfl) rfl) rfl) ss_nil) (ss_cons (st_setL (ps_asg (e_v (i := 6) rfl (by first | exact .inl rfl | exact .inr (.inl rfl) | exact .inr (.inr rfl)) (by decide) (by decide)) (pg_sub (pe_var (i := 1) rfl (by first | exact .inl rfl | exact .inr (.inl rfl) | exact .inr (.inr rfl))) (e_neg xi) set_list (fun _ => rfl)) rfl rfl rfl)) ss_nil)) ss_nil))) (fun _ => rfl))) ss_nil) (fun _ => rfl))) (ss_cons (st_ret (b_tuple z_tuple rfl (e_v (i := 1) rfl (by first | exact .inl rfl | exact .inr (.inl rfl) | exact .inr (.inr rfl)) (by decide) (by decide)) rfl)) ss_nil)))
def b_all_starts : List ST := [.ret (.blt .sset [.lc2 (.name 1) (.seq (.v 0)) (.name 2) (.seq (.v 1)) none (.blt .int [.ix (.v 2) (.c (.int 0))]) [1, 2] [2]])]
def g_all_starts : Ctx := ⟨[], [], [], ["Rising"], []⟩
def f_all_starts : Fn := ⟨1, none, semB g_all_starts 3 none b_all_starts⟩
theorem sc_all_starts : FnScope ["tables", "rows", "row"] ["tables"] (defScope (top 31)) := ⟨rfl, rfl, rfl, by decide +kernel, rfl, by decide +kernel, by decide +kernel⟩
theorem ok_all_starts {f : Addr} {fd : FuncData} (F : Fun K "all_starts" "all_starts" (top 31) f fd) (z_sorted : mg "sorted" = none) (z_set : mg "set" = none) (z_int : mg "int" = none) :
    FnOk P w K mg base (L2.CX P w) 1 f fd ["tables"] (spF K 1 none (semB g_all_starts 3 none b_all_starts)) :=
  have S := sc_all_starts
  fn_body F S (by decide) fun cdv A outer s H E hr =>
    (ss_cons (st_ret (b_sset rfl z_sorted rfl z_set rfl (e_lc2 (own := [("rows", 1), ("row", 2)]) (own1 := [2]) rfl S.nd (i_seq (e_v (i := 0) rfl (by first | exact .inl rfl | exact .inr (.inl rfl) | exact .inr (.inr rfl)) (by decide) (by decide))) (blkOk_by (N := ["tables", "rows", "row"]) (sc := defScope (top 31)) (by decide +kernel)) (by decide) (fun _ _ _ _ _ => (pg_name (i := 1) S.nd rfl (by first | exact .inl rfl | exact .inr rfl) (by first | exact .inl rfl | exact .inr rfl))) (fun _ _ _ _ _ => (i_seq (e_v (i := 1) rfl (by first | exact .inl rfl | exact .inr (.inl rfl) | exact .inr (.inr rfl)) (by decide) (by decide)))) (fun _ _ _ _ _ => (pg_name (i := 2) S.nd rfl (by first | exact .inl rfl | exact .inr rfl) (by first | exact .inl rfl | exact .inr rfl))) (fun _ _ _ _ _ => pts_nil) (fun _ _ _ _ _ => (b_int z_int rfl (e_ix (e_v (i := 2) rfl (by first | exact .inl rfl | exact .inr (.inl rfl) | exact .inr (.inr rfl)) (by decide) (by decide)) xi (fun _ _ => rfl)) rfl)) (fun _ => rfl) (fun _ _ => rfl)) rfl)) ss_nil)
def b_parts_at : List ST := [.ret (.lc (.name 2) (.seq (.v 0)) none (.tup [.v 1, .call 0 [.v 2, .v 1], .ix (.ix (.v 2) (.call 1 [.v 2, .v 1])) (.c (.int 2))]) [2])]
def g_parts_at : Ctx := ⟨[f_value_at, f_place_at], [], [], ["Rising"], []⟩
def f_parts_at : Fn := ⟨2, none, semB g_parts_at 3 none b_parts_at⟩
theorem cl_parts_at_0 {a0 a1 : IR} {env : Env} : ev g_parts_at (.call 0 [a0, a1]) env = (evs g_parts_at [a0, a1] env).bind fun ds e1 => runF e1 (f_value_at.sem ds) := ev_call rfl rfl rfl
theorem cl_parts_at_1 {a0 a1 : IR} {env : Env} : ev g_parts_at (.call 1 [a0, a1]) env = (evs g_parts_at [a0, a1] env).bind fun ds e1 => runF e1 (f_place_at.sem ds) := ev_call rfl rfl rfl
theorem sc_parts_at : FnScope ["tables", "start", "rows"] ["tables", "start"] (defScope (top 32)) := ⟨rfl, rfl, rfl, by decide +kernel, rfl, by decide +kernel, by decide +kernel⟩
theorem ok_parts_at {f : Addr} {fd : FuncData} (F : Fun K "parts_at" "parts_at" (top 32) f fd) (F_value_at : FnF P w K mg base 2 "value_at" f_value_at) (F_place_at : FnF P w K mg base 1 "place_at" f_place_at) :
    FnOk P w K mg base (L2.CX P w) 3 f fd ["tables", "start"] (spF K 2 none (semB g_parts_at 3 none b_parts_at)) :=
  have S := sc_parts_at
  fn_body F S (by decide) fun cdv A outer s H E hr =>
    (ss_cons (st_ret (e_lc (own := [("rows", 2)]) rfl S.nd (i_seq (e_v (i := 0) rfl (by first | exact .inl rfl | exact .inr (.inl rfl) | exact .inr (.inr rfl)) (by decide) (by decide))) (blkOk_by (N := ["tables", "start", "rows"]) (sc := defScope (top 32)) (by decide +kernel)) (fun _ _ _ _ _ => (pg_name (i := 2) S.nd rfl (by first | exact .inl rfl | exact .inr rfl) (by first | exact .inl rfl | exact .inr rfl))) (fun _ _ _ _ _ => pts_nil) (fun _ _ _ _ _ => (e_tup (as_cons (e_v (i := 1) rfl (by first | exact .inl rfl | exact .inr (.inl rfl) | exact .inr (.inr rfl)) (by decide) (by decide)) (as_cons (e_call F_value_at rfl (hr.mono (by decide)) takes0 rfl (aa_cons (e_v (i := 2) rfl (by first | exact .inl rfl | exact .inr (.inl rfl) | exact .inr (.inr rfl)) (by decide) (by decide)) (aa_cons (e_v (i := 1) rfl (by first | exact .inl rfl | exact .inr (.inl rfl) | exact .inr (.inr rfl)) (by decide) (by decide)) aa_nil rfl) rfl) rfl) (as_cons (e_ix (e_ix (e_v (i := 2) rfl (by first | exact .inl rfl | exact .inr (.inl rfl) | exact .inr (.inr rfl)) (by decide) (by decide)) (e_call F_place_at rfl (hr.mono (by decide)) takes0 rfl (aa_cons (e_v (i := 2) rfl (by first | exact .inl rfl | exact .inr (.inl rfl) | exact .inr (.inr rfl)) (by decide) (by decide)) (aa_cons (e_v (i := 1) rfl (by first | exact .inl rfl | exact .inr (.inl rfl) | exact .inr (.inr rfl)) (by decide) (by decide)) aa_nil rfl) rfl) rfl) (fun _ _ => rfl)) xi (fun _ _ => rfl)) as_nil rfl) rfl) rfl))) (fun _ => rfl))) ss_nil)
def b_part_over : List ST := [.asg (.tup [4, 5, 6]) (.v 0), .asg (.tup [7, 8, 9]) (.v 1), .if_ (.call 0 [.v 8, .v 5]) [.ret (.v 4)] [], .if_ (.or_ (.not_ (.v 6)) (.or_ (.v 9) (.cmp .is_ (.v 8) (.c .non)))) [.ret (.c .non)] [], .asg (.name 3) (.bin .add (.bin .sub (.bin .add (.v 4) (.v 8)) (.v 5)) (.c (.int 1))), .ret (.ite (.or_ (.cmp .is_ (.v 2) (.c .non)) (.cmp .lt (.v 3) (.v 2))) (.v 3) (.c .non))]
def g_part_over : Ctx := ⟨[f_is_less], [], [], ["Rising"], []⟩
def f_part_over : Fn := ⟨3, none, semB g_part_over 10 none b_part_over⟩
theorem cl_part_over_0 {a0 a1 : IR} {env : Env} : ev g_part_over (.call 0 [a0, a1]) env = (evs g_part_over [a0, a1] env).bind fun ds e1 => runF e1 (f_is_less.sem ds) := ev_call rfl rfl rfl
theorem sc_part_over : FnScope ["part", "other", "end", "minute", "start", "value", "grows", "_", "bound", "also_grows"] ["part", "other", "end"] (defScope (top 37)) := ⟨rfl, rfl, rfl, by decide +kernel, rfl, by decide +kernel, by decide +kernel⟩
theorem ok_part_over {f : Addr} {fd : FuncData} (F : Fun K "part_over" "part_over" (top 37) f fd) (F_is_less : FnF P w K mg base 1 "is_less" f_is_less) :
    FnOk P w K mg base (L2.CX P w) 2 f fd ["part", "other", "end"] (spF K 3 none (semB g_part_over 10 none b_part_over)) :=
  have S := sc_part_over
  fn_body F S (by decide) fun cdv A outer s H E hr =>
    (ss_cons (st_asg (ps_asg (e_v (i := 0) rfl (by first | exact .inl rfl | exact .inr (.inl rfl) | exact .inr (.inr rfl)) (by decide) (by decide)) (pg_tl rfl (pgs_cons (pg_name (i := 4) S.nd rfl (by first | exact .inl rfl | exact .inr rfl) (by first | exact .inl rfl | exact .inr rfl)) (pgs_cons (pg_name (i := 5) S.nd rfl (by first | exact .inl rfl | exact .inr rfl) (by first | exact .inl rfl | exact .inr rfl)) (pgs_cons (pg_name (i := 6) S.nd rfl (by first | exact .inl rfl | exact .inr rfl) (by first | exact .inl rfl | exact .inr rfl)) pgs_nil)))) rfl rfl rfl)) (ss_cons (st_asg (ps_asg (e_v (i := 1) rfl (by first | exact .inl rfl | exact .inr (.inl rfl) | exact .inr (.inr rfl)) (by decide) (by decide)) (pg_tl rfl (pgs_cons (pg_name (i := 7) S.nd rfl (by first | exact .inl rfl | exact .inr rfl) (by first | exact .inl rfl | exact .inr rfl)) (pgs_cons (pg_name (i := 8) S.nd rfl (by first | exact .inl rfl | exact .inr rfl) (by first | exact .inl rfl | exact .inr rfl)) (pgs_cons (pg_name (i := 9) S.nd rfl (by first | exact .inl rfl | exact .inr rfl) (by first | exact .inl rfl | exact .inr rfl)) pgs_nil)))) rfl rfl rfl)) (ss_cons (st_if (t_truth (e_call F_is_less rfl (hr.mono (by decide)) (takes_of rfl rfl rfl rfl) rfl (aa_cons (e_v (i := 8) rfl (by first | exact .inl rfl | exact .inr (.inl rfl) | exact .inr (.inr rfl)) (by decide) (by decide)) (aa_cons (e_v (i := 5) rfl (by first | exact .inl rfl | exact .inr (.inl rfl) | exact .inr (.inr rfl)) (by decide) (by decide)) aa_nil rfl) rfl) rfl) (fun _ => rfl)) (ss_cons (st_ret (e_v (i := 4) rfl (by first | exact .inl rfl | exact .inr (.inl rfl) | exact .inr (.inr rfl)) (by decide) (by decide))) ss_nil) ss_nil) (ss_cons (st_if (PW.pt (w_or (t_not (t_truth (e_v (i := 6) rfl (by first | exact .inl rfl | exact .inr (.inl rfl) | exact .inr (.inr rfl)) (by decide) (by decide)) (fun _ => rfl))) (w_or (t_truth (e_v (i := 9) rfl (by first | exact .inl rfl | exact .inr (.inl rfl) | exact .inr (.inr rfl)) (by decide) (by decide)) (fun _ => rfl)) (w_or1 (y_is (e_v (i := 8) rfl (by first | exact .inl rfl | exact .inr (.inl rfl) | exact .inr (.inr rfl)) (by decide) (by decide)) xn))))) (ss_cons (st_ret xn) ss_nil) ss_nil) (ss_cons (st_asg (ps_set (i := 3) S.nd rfl (by first | exact .inl rfl | exact .inr rfl) (x_add (x_sub (x_add (e_v (i := 4) rfl (by first | exact .inl rfl | exact .inr (.inl rfl) | exact .inr (.inr rfl)) (by decide) (by decide)) (e_v (i := 8) rfl (by first | exact .inl rfl | exact .inr (.inl rfl) | exact .inr (.inr rfl)) (by decide) (by decide))) (e_v (i := 5) rfl (by first | exact .inl rfl | exact .inr (.inl rfl) | exact .inr (.inr rfl)) (by decide) (by decide))) xi) rfl (by first | exact .inl rfl | exact .inr rfl))) (ss_cons (st_ret (e_ite (PW.pt (w_or (y_is (e_v (i := 2) rfl (by first | exact .inl rfl | exact .inr (.inl rfl) | exact .inr (.inr rfl)) (by decide) (by decide)) xn) (w_or1 (y_lt (e_v (i := 3) rfl (by first | exact .inl rfl | exact .inr (.inl rfl) | exact .inr (.inr rfl)) (by decide) (by decide)) (e_v (i := 2) rfl (by first | exact .inl rfl | exact .inr (.inl rfl) | exact .inr (.inr rfl)) (by decide) (by decide)))))) (e_v (i := 3) rfl (by first | exact .inl rfl | exact .inr (.inl rfl) | exact .inr (.inr rfl)) (by decide) (by decide)) xn)) ss_nil))))))
def b_first_over : List ST := [.asg (.name 2) (.call 0 [.lst [.v 0, .v 1]]), .for_ (.tup [3, 4]) (.enum (.v 2)) [.asg (.name 5) (.ite (.cmp .lt (.bin .add (.v 3) (.c (.int 1))) (.blt .len [.v 2])) (.ix (.v 2) (.bin .add (.v 3) (.c (.int 1)))) (.c .non)), .asg (.tup [7, 8]) (.call 1 [.lst [.v 0, .v 1], .v 4]), .asg (.name 6) (.call 2 [.v 7, .v 8, .v 5]), .if_ (.cmp .isnot (.v 6) (.c .non)) [.ret (.v 6)] []], .ret (.c .non)]
def g_first_over : Ctx := ⟨[f_all_starts, f_parts_at, f_part_over], [], [], ["Rising"], []⟩
def f_first_over : Fn := ⟨2, none, semB g_first_over 9 none b_first_over⟩
theorem cl_first_over_0 {a0 : IR} {env : Env} : ev g_first_over (.call 0 [a0]) env = (evs g_first_over [a0] env).bind fun ds e1 => runF e1 (f_all_starts.sem ds) := ev_call rfl rfl rfl
theorem cl_first_over_1 {a0 a1 : IR} {env : Env} : ev g_first_over (.call 1 [a0, a1]) env = (evs g_first_over [a0, a1] env).bind fun ds e1 => runF e1 (f_parts_at.sem ds) := ev_call rfl rfl rfl
theorem cl_first_over_2 {a0 a1 a2 : IR} {env : Env} : ev g_first_over (.call 2 [a0, a1, a2]) env = (evs g_first_over [a0, a1, a2] env).bind fun ds e1 => runF e1 (f_part_over.sem ds) := ev_call rfl rfl rfl
theorem sc_first_over : FnScope ["rows", "others", "starts", "place", "start", "end", "minute", "part", "other"] ["rows", "others"] (defScope (top 38)) := ⟨rfl, rfl, rfl, by decide +kernel, rfl, by decide +kernel, by decide +kernel⟩
theorem ok_first_over {f : Addr} {fd : FuncData} (F : Fun K "first_over" "first_over" (top 38) f fd) (F_all_starts : FnF P w K mg base 1 "all_starts" f_all_starts) (F_parts_at : FnF P w K mg base 3 "parts_at" f_parts_at) (F_part_over : FnF P w K mg base 2 "part_over" f_part_over) (z_enumerate : mg "enumerate" = none) (z_len : mg "len" = none) :
    FnOk P w K mg base (L2.CX P w) 4 f fd ["rows", "others"] (spF K 2 none (semB g_first_over 9 none b_first_over)) :=
  have S := sc_first_over
  fn_body F S (by decide) fun cdv A outer s H E hr =>
    (ss_cons (st_asg (ps_set (i := 2) S.nd rfl (by first | exact .inl rfl | exact .inr rfl) (e_call F_all_starts rfl (hr.mono (by decide)) (takes_of rfl rfl rfl rfl) rfl (aa_cons (e_lst (as_cons (e_v (i := 0) rfl (by first | exact .inl rfl | exact .inr (.inl rfl) | exact .inr (.inr rfl)) (by decide) (by decide)) (as_cons (e_v (i := 1) rfl (by first | exact .inl rfl | exact .inr (.inl rfl) | exact .inr (.inr rfl)) (by decide) (by decide)) as_nil rfl) rfl)) aa_nil rfl) rfl) rfl (by first | exact .inl rfl | exact .inr rfl))) (ss_cons (st_for (ps_for (passes_of rfl) rfl (i_enum rfl z_enumerate (e_v (i := 2) rfl (by first | exact .inl rfl | exact .inr (.inl rfl) | exact .inr (.inr rfl)) (by decide) (by decide)) rfl) (pg_tl rfl (pgs_cons (pg_name (i := 3) S.nd rfl (by first | exact .inl rfl | exact .inr rfl) (by first | exact .inl rfl | exact .inr rfl)) (pgs_cons (pg_name (i := 4) S.nd rfl (by first | exact .inl rfl | exact .inr rfl) (by first | exact .inl rfl | exact .inr rfl)) pgs_nil))) (ss_cons (st_asg (ps_set (i := 5) S.nd rfl (by first | exact .inl rfl | exact .inr rfl) (e_ite (y_lt (x_add (e_v (i := 3) rfl (by first | exact .inl rfl | exact .inr (.inl rfl) | exact .inr (.inr rfl)) (by decide) (by decide)) xi) (b_len z_len rfl (e_v (i := 2) rfl (by first | exact .inl rfl | exact .inr (.inl rfl) | exact .inr (.inr rfl)) (by decide) (by decide)) rfl)) (e_ix (e_v (i := 2) rfl (by first | exact .inl rfl | exact .inr (.inl rfl) | exact .inr (.inr rfl)) (by decide) (by decide)) (x_add (e_v (i := 3) rfl (by first | exact .inl rfl | exact .inr (.inl rfl) | exact .inr (.inr rfl)) (by decide) (by decide)) xi) (fun _ _ => rfl)) xn) rfl (by first | exact .inl rfl | exact .inr rfl))) (ss_cons (st_asg (ps_asg (e_call F_parts_at rfl (hr.mono (by decide)) (takes_of rfl rfl rfl rfl) rfl (aa_cons (e_lst (as_cons (e_v (i := 0) rfl (by first | exact .inl rfl | exact .inr (.inl rfl) | exact .inr (.inr rfl)) (by decide) (by decide)) (as_cons (e_v (i := 1) rfl (by first | exact .inl rfl | exact .inr (.inl rfl) | exact .inr (.inr rfl)) (by decide) (by decide)) as_nil rfl) rfl)) (aa_cons (e_v (i := 4) rfl (by first | exact .inl rfl | exact .inr (.inl rfl) | exact .inr (.inr rfl)) (by decide) (by decide)) aa_nil rfl) rfl) rfl) (pg_tl rfl (pgs_cons (pg_name (i := 7) S.nd rfl (by first | exact .inl rfl | exact .inr rfl) (by first | exact .inl rfl | exact .inr rfl)) (pgs_cons (pg_name (i := 8) S.nd rfl (by first | exact .inl rfl | exact .inr rfl) (by first | exact .inl rfl | exact .inr rfl)) pgs_nil))) rfl rfl rfl)) (ss_cons (st_asg (ps_set (i := 6) S.nd rfl (by first | exact .inl rfl | exact .inr rfl) (e_call F_part_over rfl (hr.mono (by decide)) (takes_of rfl rfl rfl rfl) rfl (aa_cons (e_v (i := 7) rfl (by first | exact .inl rfl | exact .inr (.inl rfl) | exact .inr (.inr rfl)) (by decide) (by decide)) (aa_cons (e_v (i := 8) rfl (by first | exact .inl rfl | exact .inr (.inl rfl) | exact .inr (.inr rfl)) (by decide) (by decide)) (aa_cons (e_v (i := 5) rfl (by first | exact .inl rfl | exact .inr (.inl rfl) | exact .inr (.inr rfl)) (by decide) (by decide)) aa_nil rfl) rfl) rfl) rfl) rfl (by first | exact .inl rfl | exact .inr rfl))) (ss_cons (st_if (y_isnot (e_v (i := 6) rfl (by first | exact .inl rfl | exact .inr (.inl rfl) | exact .inr (.inr rfl)) (by decide) (by decide)) xn) (ss_cons (st_ret (e_v (i := 6) rfl (by first | exact .inl rfl | exact .inr (.inl rfl) | exact .inr (.inr rfl)) (by decide) (by decide))) ss_nil) ss_nil) ss_nil)))) (fun _ => rfl))) (ss_cons (st_ret xn) ss_nil)))
def b_Rising___init__ : List ST := [.if_ (.or_ (.not_ (.call 0 [.v 1])) (.cmp .eq (.blt .len [.v 1]) (.c (.int 0)))) [.raise "BadPart" "part" (.c (.str "rows"))] [], .asg (.name 2) (.call 1 [.v 1]), .if_ (.cmp .isnot (.v 2) (.c .non)) [.raise "BadIndex" "index" (.v 2)] []]
def t_Rising___init__ : List (Str × IR) := [("rows", .call 2 [.v 1])]
def g_Rising___init__ : Ctx := ⟨[f_is_listed, f_first_wrong, f_told_rows], [], [], ["Rising"], []⟩
theorem sc_Rising___init__ : FnScope ("self" :: ["rows", "wrong"]) ("self" :: ["rows"]) (defScope (inTop 40 0)) := ⟨rfl, rfl, rfl, by decide +kernel, rfl, by decide +kernel, by decide +kernel⟩
theorem ok_Rising___init__ {f : Addr} {fd : FuncData} {dvs : List V} {kws : List (Str × V)} {F : List D → FR} (Fd : FunD K "__init__" "Rising.__init__" (defArgs (inTop 40 0)) (defBody (inTop 40 0)) (defScope (inTop 40 0)) dvs kws f fd) (cl : Cls K (clsAt K "Rising")) (na : ∀ f, f ∈ (t_Rising___init__.map (·.1)) → NoAttr K (clsAt K "Rising") f) (hI : InitF g_Rising___init__ 2 b_Rising___init__ t_Rising___init__ F) {I_BadPart : Addr} (T_BadPart : PySem.ErrBadPart.LowTxt K mg (clsAt K "BadPart") I_BadPart) {I_BadIndex : Addr} (T_BadIndex : PySem.ErrBadIndex.LowTxt K mg (clsAt K "BadIndex") I_BadIndex) (F_is_listed : FnF P w K mg base 1 "is_listed" f_is_listed) (F_first_wrong : FnF P w K mg base 3 "first_wrong" f_first_wrong) (F_told_rows : FnF P w K mg base 3 "told_rows" f_told_rows) (z_len : mg "len" = none) :
    FnOk P w K mg base (L2.CX P w) 4 f fd ("self" :: ["rows"]) (spMk K "Rising" 1 (t_Rising___init__.map (·.1)) F) :=
  have S := sc_Rising___init__
  fn_init Fd S rfl (by decide) hI cl (by decide +kernel) na (by decide) fun cdv A outer s H E hr =>
    (.step (st_if (PW.pt (w_or (t_not (t_truth (e_call F_is_listed rfl (hr.mono (by decide)) (takes_of rfl rfl rfl rfl) rfl (aa_cons (e_v (i := 1) rfl (by first | exact .inl rfl | exact .inr (.inl rfl) | exact .inr (.inr rfl)) (by decide) (by decide)) aa_nil rfl) rfl) (fun _ => rfl))) (w_or1 (y_eq (hu64 hr) (b_len z_len rfl (e_v (i := 1) rfl (by first | exact .inl rfl | exact .inr (.inl rfl) | exact .inr (.inr rfl)) (by decide) (by decide)) rfl) xi)))) (ss_cons (st_raise (ps_raiseLow_BadPart rfl T_BadPart hr.r (takes_of rfl rfl rfl rfl) (as_cons xs as_nil rfl))) ss_nil) ss_nil) (.step (st_asg (ps_set (i := 2) S.nd rfl (by first | exact .inl rfl | exact .inr rfl) (e_call F_first_wrong rfl (hr.mono (by decide)) (takes_of rfl rfl rfl rfl) rfl (aa_cons (e_v (i := 1) rfl (by first | exact .inl rfl | exact .inr (.inl rfl) | exact .inr (.inr rfl)) (by decide) (by decide)) aa_nil rfl) rfl) rfl (by first | exact .inl rfl | exact .inr rfl))) (.step (st_if (y_isnot (e_v (i := 2) rfl (by first | exact .inl rfl | exact .inr (.inl rfl) | exact .inr (.inr rfl)) (by decide) (by decide)) xn) (ss_cons (st_raise (ps_raiseLow_BadIndex rfl T_BadIndex hr.r (takes_of rfl rfl rfl rfl) (as_cons (e_v (i := 2) rfl (by first | exact .inl rfl | exact .inr (.inl rfl) | exact .inr (.inr rfl)) (by decide) (by decide)) as_nil rfl))) ss_nil) ss_nil) (.last (tl_cons (ps_fld (pe_var (i := 0) rfl (by first | exact .inl rfl | exact .inr (.inl rfl) | exact .inr (.inr rfl))) (e_call F_told_rows rfl (hr.mono (by decide)) (takes_of rfl rfl rfl rfl) rfl (aa_cons (e_v (i := 1) rfl (by first | exact .inl rfl | exact .inr (.inl rfl) | exact .inr (.inr rfl)) (by decide) (by decide)) aa_nil rfl) rfl) rfl) tl_nil)))))
def b_Rising___call__ : List ST := [.expr (.call 0 [.v 1]), .ret (.call 1 [.fld (.v 0) "rows", .v 1])]
def g_Rising___call__ : Ctx := ⟨[f_need_minute, f_value_at], [], [], ["Rising"], []⟩
def m_Rising___call__ : Mt := ⟨"Rising", "__call__", 2, semB g_Rising___call__ 2 none b_Rising___call__⟩
theorem cl_Rising___call___0 {a0 : IR} {env : Env} : ev g_Rising___call__ (.call 0 [a0]) env = (evs g_Rising___call__ [a0] env).bind fun ds e1 => runF e1 (f_need_minute.sem ds) := ev_call rfl rfl rfl
theorem cl_Rising___call___1 {a0 a1 : IR} {env : Env} : ev g_Rising___call__ (.call 1 [a0, a1]) env = (evs g_Rising___call__ [a0, a1] env).bind fun ds e1 => runF e1 (f_value_at.sem ds) := ev_call rfl rfl rfl
theorem sc_Rising___call__ : FnScope ["self", "minute"] ["self", "minute"] (defScope (inTop 40 1)) := ⟨rfl, rfl, rfl, by decide +kernel, rfl, by decide +kernel, by decide +kernel⟩
theorem ok_Rising___call__ {f : Addr} {fd : FuncData} (F : Fun K "__call__" "Rising.__call__" (inTop 40 1) f fd) (F_need_minute : FnF P w K mg base 4 "need_minute" f_need_minute) (F_value_at : FnF P w K mg base 2 "value_at" f_value_at) (hF : ClsF K ["Rising"] ["rows"]) :
    FnOk P w K mg base (L2.CX P w) 5 f fd ["self", "minute"] (spF K 2 none (semB g_Rising___call__ 2 none b_Rising___call__)) :=
  have S := sc_Rising___call__
  fn_body F S (by decide) fun cdv A outer s H E hr =>
    (ss_cons (st_expr (e_call F_need_minute rfl (hr.mono (by decide)) (takes_of rfl rfl rfl rfl) rfl (aa_cons (e_v (i := 1) rfl (by first | exact .inl rfl | exact .inr (.inl rfl) | exact .inr (.inr rfl)) (by decide) (by decide)) aa_nil rfl) rfl) rfl) (ss_cons (st_ret (e_call F_value_at rfl (hr.mono (by decide)) (takes_of rfl rfl rfl rfl) rfl (aa_cons (e_fld hF (by decide) (e_v (i := 0) rfl (by first | exact .inl rfl | exact .inr (.inl rfl) | exact .inr (.inr rfl)) (by decide) (by decide)) rfl) (aa_cons (e_v (i := 1) rfl (by first | exact .inl rfl | exact .inr (.inl rfl) | exact .inr (.inr rfl)) (by decide) (by decide)) aa_nil rfl) rfl) rfl)) ss_nil))
def b_Rising___eq__ : List ST := [.ret (.and_ (.isin (.v 1) [(.cls "Rising")]) (.cmp .eq (.fld (.v 0) "rows") (.fld (.v 1) "rows")))]
def g_Rising___eq__ : Ctx := ⟨[], [], [], ["Rising"], []⟩
def m_Rising___eq__ : Mt := ⟨"Rising", "__eq__", 2, semB g_Rising___eq__ 2 none b_Rising___eq__⟩
theorem sc_Rising___eq__ : FnScope ["self", "other"] ["self", "other"] (defScope (inTop 40 3)) := ⟨rfl, rfl, rfl, by decide +kernel, rfl, by decide +kernel, by decide +kernel⟩
theorem ok_Rising___eq__ {f : Addr} {fd : FuncData} (F : Fun K "__eq__" "Rising.__eq__" (inTop 40 3) f fd) (z_isinstance : mg "isinstance" = none) (hC : ∀ C, C ∈ (["Rising"] : List Str) → IsC K C) {a_Rising : Addr} (g_Rising : mg "Rising" = some (.ref a_Rising)) (K_Rising : IsK K ["Rising"] (.cls "Rising") (.ref a_Rising)) (hF : ClsF K ["Rising"] ["rows"]) :
    FnOk P w K mg base (L2.CX P w) 1 f fd ["self", "other"] (spF K 2 none (semB g_Rising___eq__ 2 none b_Rising___eq__)) :=
  have S := sc_Rising___eq__
  fn_body F S (by decide) fun cdv A outer s H E hr =>
    (ss_cons (st_ret (e_and (e_isin1 hC K_Rising (.own _) (e_v (i := 1) rfl (by first | exact .inl rfl | exact .inr (.inl rfl) | exact .inr (.inr rfl)) (by decide) (by decide)) (pe_glob rfl g_Rising rfl) rfl z_isinstance rfl rfl) (pe_one (x_eq (hu64 hr) (e_fld hF (by decide) (e_v (i := 0) rfl (by first | exact .inl rfl | exact .inr (.inl rfl) | exact .inr (.inr rfl)) (by decide) (by decide)) rfl) (e_fld hF (by decide) (e_v (i := 1) rfl (by first | exact .inl rfl | exact .inr (.inl rfl) | exact .inr (.inr rfl)) (by decide) (by decide)) rfl))))) ss_nil)
def b_Rising___le__ : List ST := [.ret (.and_ (.isin (.v 1) [(.cls "Rising")]) (.cmp .is_ (.call 0 [.fld (.v 0) "rows", .fld (.v 1) "rows"]) (.c .non)))]
def g_Rising___le__ : Ctx := ⟨[f_first_over], [], [], ["Rising"], []⟩
def m_Rising___le__ : Mt := ⟨"Rising", "__le__", 2, semB g_Rising___le__ 2 none b_Rising___le__⟩
theorem cl_Rising___le___0 {a0 a1 : IR} {env : Env} : ev g_Rising___le__ (.call 0 [a0, a1]) env = (evs g_Rising___le__ [a0, a1] env).bind fun ds e1 => runF e1 (f_first_over.sem ds) := ev_call rfl rfl rfl
theorem sc_Rising___le__ : FnScope ["self", "other"] ["self", "other"] (defScope (inTop 40 4)) := ⟨rfl, rfl, rfl, by decide +kernel, rfl, by decide +kernel, by decide +kernel⟩
theorem ok_Rising___le__ {f : Addr} {fd : FuncData} (F : Fun K "__le__" "Rising.__le__" (inTop 40 4) f fd) (F_first_over : FnF P w K mg base 4 "first_over" f_first_over) (z_isinstance : mg "isinstance" = none) (hC : ∀ C, C ∈ (["Rising"] : List Str) → IsC K C) {a_Rising : Addr} (g_Rising : mg "Rising" = some (.ref a_Rising)) (K_Rising : IsK K ["Rising"] (.cls "Rising") (.ref a_Rising)) (hF : ClsF K ["Rising"] ["rows"]) :
    FnOk P w K mg base (L2.CX P w) 5 f fd ["self", "other"] (spF K 2 none (semB g_Rising___le__ 2 none b_Rising___le__)) :=
  have S := sc_Rising___le__
  fn_body F S (by decide) fun cdv A outer s H E hr =>
    (ss_cons (st_ret (e_and (e_isin1 hC K_Rising (.own _) (e_v (i := 1) rfl (by first | exact .inl rfl | exact .inr (.inl rfl) | exact .inr (.inr rfl)) (by decide) (by decide)) (pe_glob rfl g_Rising rfl) rfl z_isinstance rfl rfl) (pe_one (x_is (e_call F_first_over rfl (hr.mono (by decide)) (takes_of rfl rfl rfl rfl) rfl (aa_cons (e_fld hF (by decide) (e_v (i := 0) rfl (by first | exact .inl rfl | exact .inr (.inl rfl) | exact .inr (.inr rfl)) (by decide) (by decide)) rfl) (aa_cons (e_fld hF (by decide) (e_v (i := 1) rfl (by first | exact .inl rfl | exact .inr (.inl rfl) | exact .inr (.inr rfl)) (by decide) (by decide)) rfl) aa_nil rfl) rfl) rfl) xn)))) ss_nil)
def b_Rising_last : List ST := [.asg (.tup [1, 2, 3]) (.ix (.fld (.v 0) "rows") (.neg (.c (.int 1)))), .ret (.ite (.and_ (.cmp .is_ (.v 2) (.c .non)) (.cmp .gt (.v 1) (.c (.int 0)))) (.bin .sub (.v 1) (.c (.int 1))) (.c .non))]
def g_Rising_last : Ctx := ⟨[], [], [], ["Rising"], []⟩
def m_Rising_last : Mt := ⟨"Rising", "last", 1, semB g_Rising_last 4 none b_Rising_last⟩
theorem sc_Rising_last : FnScope ["self", "start", "value", "_"] ["self"] (defScope (inTop 40 9)) := ⟨rfl, rfl, rfl, by decide +kernel, rfl, by decide +kernel, by decide +kernel⟩
theorem ok_Rising_last {f : Addr} {fd : FuncData} (F : Fun K "last" "Rising.last" (inTop 40 9) f fd) (hF : ClsF K ["Rising"] ["rows"]) :
    FnOk P w K mg base (L2.CX P w) 1 f fd ["self"] (spF K 1 none (semB g_Rising_last 4 none b_Rising_last)) :=
  have S := sc_Rising_last
  fn_body F S (by decide) fun cdv A outer s H E hr =>
    (ss_cons (st_asg (ps_asg (e_ix (e_fld hF (by decide) (e_v (i := 0) rfl (by first | exact .inl rfl | exact .inr (.inl rfl) | exact .inr (.inr rfl)) (by decide) (by decide)) rfl) (e_neg xi) (fun _ _ => rfl)) (pg_tl rfl (pgs_cons (pg_name (i := 1) S.nd rfl (by first | exact .inl rfl | exact .inr rfl) (by first | exact .inl rfl | exact .inr rfl)) (pgs_cons (pg_name (i := 2) S.nd rfl (by first | exact .inl rfl | exact .inr rfl) (by first | exact .inl rfl | exact .inr rfl)) (pgs_cons (pg_name (i := 3) S.nd rfl (by first | exact .inl rfl | exact .inr rfl) (by first | exact .inl rfl | exact .inr rfl)) pgs_nil)))) rfl rfl rfl)) (ss_cons (st_ret (e_ite (PW.pt (w_and (y_is (e_v (i := 2) rfl (by first | exact .inl rfl | exact .inr (.inl rfl) | exact .inr (.inr rfl)) (by decide) (by decide)) xn) (w_and1 (y_gt (e_v (i := 1) rfl (by first | exact .inl rfl | exact .inr (.inl rfl) | exact .inr (.inr rfl)) (by decide) (by decide)) xi)))) (x_sub (e_v (i := 1) rfl (by first | exact .inl rfl | exact .inr (.inl rfl) | exact .inr (.inr rfl)) (by decide) (by decide)) xi) xn)) ss_nil))
def b_need_maps : List ST := [.if_ (.or_ (.not_ (.call 0 [.v 0])) (.or_ (.cmp .eq (.blt .len [.v 0]) (.c (.int 0))) (.not_ (.blt .all [.lc (.name 1) (.seq (.v 0)) none (.isin (.v 1) [(.cls "Rising")]) [1]])))) [.raise "BadPart" "part" (.c (.str "maps"))] []]
def g_need_maps : Ctx := ⟨[f_is_listed], [], [], ["Rising"], []⟩
def f_need_maps : Fn := ⟨1, none, semB g_need_maps 2 none b_need_maps⟩
theorem cl_need_maps_0 {a0 : IR} {env : Env} : ev g_need_maps (.call 0 [a0]) env = (evs g_need_maps [a0] env).bind fun ds e1 => runF e1 (f_is_listed.sem ds) := ev_call rfl rfl rfl
theorem sc_need_maps : FnScope ["maps", "rising"] ["maps"] (defScope (top 41)) := ⟨rfl, rfl, rfl, by decide +kernel, rfl, by decide +kernel, by decide +kernel⟩
theorem ok_need_maps {f : Addr} {fd : FuncData} (F : Fun K "need_maps" "need_maps" (top 41) f fd) {I_BadPart : Addr} (T_BadPart : PySem.ErrBadPart.LowTxt K mg (clsAt K "BadPart") I_BadPart) (F_is_listed : FnF P w K mg base 1 "is_listed" f_is_listed) (z_len : mg "len" = none) (z_all : mg "all" = none) (z_isinstance : mg "isinstance" = none) (hC : ∀ C, C ∈ (["Rising"] : List Str) → IsC K C) {a_Rising : Addr} (g_Rising : mg "Rising" = some (.ref a_Rising)) (K_Rising : IsK K ["Rising"] (.cls "Rising") (.ref a_Rising)) :
    FnOk P w K mg base (L2.CX P w) 2 f fd ["maps"] (spF K 1 none (semB g_need_maps 2 none b_need_maps)) :=
  have S := sc_need_maps
  fn_body F S (by decide) fun cdv A outer s H E hr =>
    (ss_cons (st_if (PW.pt (w_or (t_not (t_truth (e_call F_is_listed rfl (hr.mono (by decide)) (takes_of rfl rfl rfl rfl) rfl (aa_cons (e_v (i := 0) rfl (by first | exact .inl rfl | exact .inr (.inl rfl) | exact .inr (.inr rfl)) (by decide) (by decide)) aa_nil rfl) rfl) (fun _ => rfl))) (w_or (y_eq (hu64 hr) (b_len z_len rfl (e_v (i := 0) rfl (by first | exact .inl rfl | exact .inr (.inl rfl) | exact .inr (.inr rfl)) (by decide) (by decide)) rfl) xi) (w_or1 (t_not (t_truth (b_all rfl z_all rfl (e_lc (own := [("rising", 1)]) rfl S.nd (i_seq (e_v (i := 0) rfl (by first | exact .inl rfl | exact .inr (.inl rfl) | exact .inr (.inr rfl)) (by decide) (by decide))) (blkOk_by (N := ["maps", "rising"]) (sc := defScope (top 41)) (by decide +kernel)) (fun _ _ _ _ _ => (pg_name (i := 1) S.nd rfl (by first | exact .inl rfl | exact .inr rfl) (by first | exact .inl rfl | exact .inr rfl))) (fun _ _ _ _ _ => pts_nil) (fun _ _ _ _ _ => (e_isin1 hC K_Rising (.own _) (e_v (i := 1) rfl (by first | exact .inl rfl | exact .inr (.inl rfl) | exact .inr (.inr rfl)) (by decide) (by decide)) (pe_glob rfl g_Rising rfl) rfl z_isinstance rfl rfl)) (fun _ => rfl)) rfl) (fun _ => rfl))))))) (ss_cons (st_raise (ps_raiseLow_BadPart rfl T_BadPart hr.r (takes_of rfl rfl rfl rfl) (as_cons xs as_nil rfl))) ss_nil) ss_nil) ss_nil)
def b_first_unlike : List ST := [.expr (.call 0 [.lst [.v 0, .v 1]]), .ret (.call 1 [.call 2 [.fld (.v 0) "rows", .fld (.v 1) "rows"], .call 2 [.fld (.v 1) "rows", .fld (.v 0) "rows"]])]
def g_first_unlike : Ctx := ⟨[f_need_maps, f_lesser, f_first_over], [], [], ["Rising"], []⟩
def f_first_unlike : Fn := ⟨2, none, semB g_first_unlike 2 none b_first_unlike⟩
theorem cl_first_unlike_0 {a0 : IR} {env : Env} : ev g_first_unlike (.call 0 [a0]) env = (evs g_first_unlike [a0] env).bind fun ds e1 => runF e1 (f_need_maps.sem ds) := ev_call rfl rfl rfl
theorem cl_first_unlike_1 {a0 a1 : IR} {env : Env} : ev g_first_unlike (.call 1 [a0, a1]) env = (evs g_first_unlike [a0, a1] env).bind fun ds e1 => runF e1 (f_lesser.sem ds) := ev_call rfl rfl rfl
theorem cl_first_unlike_2 {a0 a1 : IR} {env : Env} : ev g_first_unlike (.call 2 [a0, a1]) env = (evs g_first_unlike [a0, a1] env).bind fun ds e1 => runF e1 (f_first_over.sem ds) := ev_call rfl rfl rfl
theorem sc_first_unlike : FnScope ["one", "other"] ["one", "other"] (defScope (top 42)) := ⟨rfl, rfl, rfl, by decide +kernel, rfl, by decide +kernel, by decide +kernel⟩
theorem ok_first_unlike {f : Addr} {fd : FuncData} (F : Fun K "first_unlike" "first_unlike" (top 42) f fd) (F_need_maps : FnF P w K mg base 2 "need_maps" f_need_maps) (F_lesser : FnF P w K mg base 2 "lesser" f_lesser) (F_first_over : FnF P w K mg base 4 "first_over" f_first_over) (hF : ClsF K ["Rising"] ["rows"]) :
    FnOk P w K mg base (L2.CX P w) 5 f fd ["one", "other"] (spF K 2 none (semB g_first_unlike 2 none b_first_unlike)) :=
  have S := sc_first_unlike
  fn_body F S (by decide) fun cdv A outer s H E hr =>
    (ss_cons (st_expr (e_call F_need_maps rfl (hr.mono (by decide)) (takes_of rfl rfl rfl rfl) rfl (aa_cons (e_lst (as_cons (e_v (i := 0) rfl (by first | exact .inl rfl | exact .inr (.inl rfl) | exact .inr (.inr rfl)) (by decide) (by decide)) (as_cons (e_v (i := 1) rfl (by first | exact .inl rfl | exact .inr (.inl rfl) | exact .inr (.inr rfl)) (by decide) (by decide)) as_nil rfl) rfl)) aa_nil rfl) rfl) rfl) (ss_cons (st_ret (e_call F_lesser rfl (hr.mono (by decide)) (takes_of rfl rfl rfl rfl) rfl (aa_cons (e_call F_first_over rfl (hr.mono (by decide)) (takes_of rfl rfl rfl rfl) rfl (aa_cons (e_fld hF (by decide) (e_v (i := 0) rfl (by first | exact .inl rfl | exact .inr (.inl rfl) | exact .inr (.inr rfl)) (by decide) (by decide)) rfl) (aa_cons (e_fld hF (by decide) (e_v (i := 1) rfl (by first | exact .inl rfl | exact .inr (.inl rfl) | exact .inr (.inr rfl)) (by decide) (by decide)) rfl) aa_nil rfl) rfl) rfl) (aa_cons (e_call F_first_over rfl (hr.mono (by decide)) (takes_of rfl rfl rfl rfl) rfl (aa_cons (e_fld hF (by decide) (e_v (i := 1) rfl (by first | exact .inl rfl | exact .inr (.inl rfl) | exact .inr (.inr rfl)) (by decide) (by decide)) rfl) (aa_cons (e_fld hF (by decide) (e_v (i := 0) rfl (by first | exact .inl rfl | exact .inr (.inl rfl) | exact .inr (.inr rfl)) (by decide) (by decide)) rfl) aa_nil rfl) rfl) rfl) aa_nil rfl) rfl) rfl)) ss_nil))
def b_first_above : List ST := [.expr (.call 0 [.lst [.v 0, .v 1]]), .ret (.call 1 [.fld (.v 0) "rows", .fld (.v 1) "rows"])]
def g_first_above : Ctx := ⟨[f_need_maps, f_first_over], [], [], ["Rising"], []⟩
def f_first_above : Fn := ⟨2, none, semB g_first_above 2 none b_first_above⟩
theorem cl_first_above_0 {a0 : IR} {env : Env} : ev g_first_above (.call 0 [a0]) env = (evs g_first_above [a0] env).bind fun ds e1 => runF e1 (f_need_maps.sem ds) := ev_call rfl rfl rfl
theorem cl_first_above_1 {a0 a1 : IR} {env : Env} : ev g_first_above (.call 1 [a0, a1]) env = (evs g_first_above [a0, a1] env).bind fun ds e1 => runF e1 (f_first_over.sem ds) := ev_call rfl rfl rfl
theorem sc_first_above : FnScope ["one", "other"] ["one", "other"] (defScope (top 43)) := ⟨rfl, rfl, rfl, by decide +kernel, rfl, by decide +kernel, by decide +kernel⟩
theorem ok_first_above {f : Addr} {fd : FuncData} (F : Fun K "first_above" "first_above" (top 43) f fd) (F_need_maps : FnF P w K mg base 2 "need_maps" f_need_maps) (F_first_over : FnF P w K mg base 4 "first_over" f_first_over) (hF : ClsF K ["Rising"] ["rows"]) :
    FnOk P w K mg base (L2.CX P w) 5 f fd ["one", "other"] (spF K 2 none (semB g_first_above 2 none b_first_above)) :=
  have S := sc_first_above
  fn_body F S (by decide) fun cdv A outer s H E hr =>
    (ss_cons (st_expr (e_call F_need_maps rfl (hr.mono (by decide)) (takes_of rfl rfl rfl rfl) rfl (aa_cons (e_lst (as_cons (e_v (i := 0) rfl (by first | exact .inl rfl | exact .inr (.inl rfl) | exact .inr (.inr rfl)) (by decide) (by decide)) (as_cons (e_v (i := 1) rfl (by first | exact .inl rfl | exact .inr (.inl rfl) | exact .inr (.inr rfl)) (by decide) (by decide)) as_nil rfl) rfl)) aa_nil rfl) rfl) rfl) (ss_cons (st_ret (e_call F_first_over rfl (hr.mono (by decide)) (takes_of rfl rfl rfl rfl) rfl (aa_cons (e_fld hF (by decide) (e_v (i := 0) rfl (by first | exact .inl rfl | exact .inr (.inl rfl) | exact .inr (.inr rfl)) (by decide) (by decide)) rfl) (aa_cons (e_fld hF (by decide) (e_v (i := 1) rfl (by first | exact .inl rfl | exact .inr (.inl rfl) | exact .inr (.inr rfl)) (by decide) (by decide)) rfl) aa_nil rfl) rfl) rfl)) ss_nil))
def b__law_pool : List ST := [.asg (.name 2) (.c (.int 0)), .if_ (.cmp .lt (.v 1) (.blt .len [.v 0])) [.asg (.name 2) (.ix (.v 0) (.v 1))] [], .asg (.name 3) (.blt .max2 [.blt .int [.v 2], .blt .int [.bin .sub (.neg (.c (.int 1))) (.v 2)]]), .asg (.name 4) (.bin .mod (.blt .int [.bin .mul (.bin .add (.bin .add (.bin .add (.bin .mod (.blt .int [.v 3]) (.c (.int 2147483629))) (.bin .mul (.bin .mul (.c (.int 7919)) (.v 1)) (.v 1))) (.bin .mul (.c (.int 31)) (.v 1))) (.c (.int 17))) (.c (.int 48271))]) (.c (.int 2147483647))), .retl (.lst [.bin .mul (.v 3) (.blt .int [.cmp .ge (.v 3) (.bin .pow (.c (.int 10)) (.c (.int 18)))]), .v 4])]
def g__law_pool : Ctx := ⟨[], [], [], ["Rising"], []⟩
def f__law_pool : Fn := ⟨2, none, semBF g__law_pool 5 b__law_pool⟩
theorem sc__law_pool : FnScope ["_law_script", "_law_k", "_law_cell", "_law_big", "_law_mixed"] ["_law_script", "_law_k"] (defScope (top 45)) := ⟨rfl, rfl, rfl, by decide +kernel, rfl, by decide +kernel, by decide +kernel⟩
theorem ok__law_pool {f : Addr} {fd : FuncData} (F : Fun K "_law_pool" "_law_pool" (top 45) f fd) (z_len : mg "len" = none) (z_max : mg "max" = none) (z_int : mg "int" = none) :
    FnOk P w K mg base (L2.CX P w) 1 f fd ["_law_script", "_law_k"] (spFr K 2 (semBF g__law_pool 5 b__law_pool)) :=
  have S := sc__law_pool
  fn_bodyF F S (by decide) fun cdv A outer s H E hr =>
    (ss_cons (st_asg (ps_set (i := 2) S.nd rfl (by first | exact .inl rfl | exact .inr rfl) xi rfl (by first | exact .inl rfl | exact .inr rfl))) (ss_cons (st_if (y_lt (e_v (i := 1) rfl (by first | exact .inl rfl | exact .inr (.inl rfl) | exact .inr (.inr rfl)) (by decide) (by decide)) (b_len z_len rfl (e_v (i := 0) rfl (by first | exact .inl rfl | exact .inr (.inl rfl) | exact .inr (.inr rfl)) (by decide) (by decide)) rfl)) (ss_cons (st_asg (ps_set (i := 2) S.nd rfl (by first | exact .inl rfl | exact .inr rfl) (e_ix (e_v (i := 0) rfl (by first | exact .inl rfl | exact .inr (.inl rfl) | exact .inr (.inr rfl)) (by decide) (by decide)) (e_v (i := 1) rfl (by first | exact .inl rfl | exact .inr (.inl rfl) | exact .inr (.inr rfl)) (by decide) (by decide)) (fun _ _ => rfl)) rfl (by first | exact .inl rfl | exact .inr rfl))) ss_nil) ss_nil) (ss_cons (st_asg (ps_set (i := 3) S.nd rfl (by first | exact .inl rfl | exact .inr rfl) (b_max rfl z_max rfl (b_int z_int rfl (e_v (i := 2) rfl (by first | exact .inl rfl | exact .inr (.inl rfl) | exact .inr (.inr rfl)) (by decide) (by decide)) rfl) (b_int z_int rfl (x_sub (e_neg xi) (e_v (i := 2) rfl (by first | exact .inl rfl | exact .inr (.inl rfl) | exact .inr (.inr rfl)) (by decide) (by decide))) rfl) rfl rfl) rfl (by first | exact .inl rfl | exact .inr rfl))) (ss_cons (st_asg (ps_set (i := 4) S.nd rfl (by first | exact .inl rfl | exact .inr rfl) (x_mod (b_int z_int rfl (x_mul (x_add (x_add (x_add (x_mod (b_int z_int rfl (e_v (i := 3) rfl (by first | exact .inl rfl | exact .inr (.inl rfl) | exact .inr (.inr rfl)) (by decide) (by decide)) rfl) xi) (x_mul (x_mul xi (e_v (i := 1) rfl (by first | exact .inl rfl | exact .inr (.inl rfl) | exact .inr (.inr rfl)) (by decide) (by decide))) (e_v (i := 1) rfl (by first | exact .inl rfl | exact .inr (.inl rfl) | exact .inr (.inr rfl)) (by decide) (by decide)))) (x_mul xi (e_v (i := 1) rfl (by first | exact .inl rfl | exact .inr (.inl rfl) | exact .inr (.inr rfl)) (by decide) (by decide)))) xi) xi) rfl) xi) rfl (by first | exact .inl rfl | exact .inr rfl))) (ss_cons (st_retl (l_lst (as_cons (x_mul (e_v (i := 3) rfl (by first | exact .inl rfl | exact .inr (.inl rfl) | exact .inr (.inr rfl)) (by decide) (by decide)) (b_int z_int rfl (x_ge (e_v (i := 3) rfl (by first | exact .inl rfl | exact .inr (.inl rfl) | exact .inr (.inr rfl)) (by decide) (by decide)) (x_pow xi xi)) rfl)) (as_cons (e_v (i := 4) rfl (by first | exact .inl rfl | exact .inr (.inl rfl) | exact .inr (.inr rfl)) (by decide) (by decide)) as_nil rfl) rfl))) ss_nil)))))
def b__law_take : List ST := [.if_ (.cmp .gt (.ix (.v 0) (.c (.int 0))) (.c (.int 0))) [.asg (.name 2) (.bin .mod (.blt .int [.ix (.v 0) (.c (.int 0))]) (.v 1)), .six 0 (.c (.int 0)) (.bin .fdiv (.ix (.v 0) (.c (.int 0))) (.v 1)), .ret (.v 2)] [], .six 0 (.c (.int 1)) (.bin .mod (.blt .int [.bin .add (.bin .mul (.ix (.v 0) (.c (.int 1))) (.c (.int 39373))) (.c (.int 7))]) (.c (.int 2147483647))), .ret (.bin .mod (.blt .int [.bin .fdiv (.bin .mod (.blt .int [.bin .mul (.ix (.v 0) (.c (.int 1))) (.ix (.v 0) (.c (.int 1)))]) (.c (.int 2147483629))) (.c (.int 32))]) (.v 1))]
def g__law_take : Ctx := ⟨[], [], [], ["Rising"], []⟩
def f__law_take : Fn := ⟨2, some 0, semB g__law_take 3 (some 0) b__law_take⟩
theorem sc__law_take : FnScope ["_law_source", "_law_top", "_law_told"] ["_law_source", "_law_top"] (defScope (top 46)) := ⟨rfl, rfl, rfl, by decide +kernel, rfl, by decide +kernel, by decide +kernel⟩
theorem ok__law_take {f : Addr} {fd : FuncData} (F : Fun K "_law_take" "_law_take" (top 46) f fd) (z_int : mg "int" = none) :
    FnOk P w K mg base (L2.CX P w) 1 f fd ["_law_source", "_law_top"] (spF K 2 (some 0) (semB g__law_take 3 (some 0) b__law_take)) :=
  have S := sc__law_take
  fn_body F S (by decide) fun cdv A outer s H E hr =>
    (ss_cons (st_if (y_gt (e_ix (e_v (i := 0) rfl (by first | exact .inl rfl | exact .inr (.inl rfl) | exact .inr (.inr rfl)) (by decide) (by decide)) xi (fun _ _ => rfl)) xi) (ss_cons (st_asg (ps_set (i := 2) S.nd rfl (by first | exact .inl rfl | exact .inr rfl) (x_mod (b_int z_int rfl (e_ix (e_v (i := 0) rfl (by first | exact .inl rfl | exact .inr (.inl rfl) | exact .inr (.inr rfl)) (by decide) (by decide)) xi (fun _ _ => rfl)) rfl) (e_v (i := 1) rfl (by first | exact .inl rfl | exact .inr (.inl rfl) | exact .inr (.inr rfl)) (by decide) (by decide))) rfl (by first | exact .inl rfl | exact .inr rfl))) (ss_cons (st_six (ps_asg (x_fdiv (e_ix (e_v (i := 0) rfl (by first | exact .inl rfl | exact .inr (.inl rfl) | exact .inr (.inr rfl)) (by decide) (by decide)) xi (fun _ _ => rfl)) (e_v (i := 1) rfl (by first | exact .inl rfl | exact .inr (.inl rfl) | exact .inr (.inr rfl)) (by decide) (by decide))) (pg_sub (pe_var (i := 0) rfl (by first | exact .inl rfl | exact .inr (.inl rfl) | exact .inr (.inr rfl))) xi set_list (fun _ => rfl)) rfl rfl rfl)) (ss_cons (st_ret (e_v (i := 2) rfl (by first | exact .inl rfl | exact .inr (.inl rfl) | exact .inr (.inr rfl)) (by decide) (by decide))) ss_nil))) ss_nil) (ss_cons (st_six (ps_asg (x_mod (b_int z_int rfl (x_add (x_mul (e_ix (e_v (i := 0) rfl (by first | exact .inl rfl | exact .inr (.inl rfl) | exact .inr (.inr rfl)) (by decide) (by decide)) xi (fun _ _ => rfl)) xi) xi) rfl) xi) (pg_sub (pe_var (i := 0) rfl (by first | exact .inl rfl | exact .inr (.inl rfl) | exact .inr (.inr rfl))) xi set_list (fun _ => rfl)) rfl rfl rfl)) (ss_cons (st_ret (x_mod (b_int z_int rfl (x_fdiv (x_mod (b_int z_int rfl (x_mul (e_ix (e_v (i := 0) rfl (by first | exact .inl rfl | exact .inr (.inl rfl) | exact .inr (.inr rfl)) (by decide) (by decide)) xi (fun _ _ => rfl)) (e_ix (e_v (i := 0) rfl (by first | exact .inl rfl | exact .inr (.inl rfl) | exact .inr (.inr rfl)) (by decide) (by decide)) xi (fun _ _ => rfl))) rfl) xi) xi) rfl) (e_v (i := 1) rfl (by first | exact .inl rfl | exact .inr (.inl rfl) | exact .inr (.inr rfl)) (by decide) (by decide)))) ss_nil)))
def b__law_one : List ST := [.ret (.ix (.v 1) (.call 0 [.v 0, .blt .len [.v 1]]))]
def g__law_one : Ctx := ⟨[f__law_take], [], [], ["Rising"], []⟩
def f__law_one : Fn := ⟨2, some 0, semB g__law_one 2 (some 0) b__law_one⟩
theorem sc__law_one : FnScope ["_law_source", "_law_things"] ["_law_source", "_law_things"] (defScope (top 47)) := ⟨rfl, rfl, rfl, by decide +kernel, rfl, by decide +kernel, by decide +kernel⟩
theorem ok__law_one {f : Addr} {fd : FuncData} (F : Fun K "_law_one" "_law_one" (top 47) f fd) (F__law_take : FnF P w K mg base 1 "_law_take" f__law_take) (z_len : mg "len" = none) :
    FnOk P w K mg base (L2.CX P w) 2 f fd ["_law_source", "_law_things"] (spF K 2 (some 0) (semB g__law_one 2 (some 0) b__law_one)) :=
  have S := sc__law_one
  fn_body F S (by decide) fun cdv A outer s H E hr =>
    (ss_cons (st_ret (e_ix (e_v (i := 1) rfl (by first | exact .inl rfl | exact .inr (.inl rfl) | exact .inr (.inr rfl)) (by decide) (by decide)) (e_call F__law_take rfl (hr.mono (by decide)) (takes_of rfl rfl rfl rfl) rfl (aa_cons (e_v (i := 0) rfl (by first | exact .inl rfl | exact .inr (.inl rfl) | exact .inr (.inr rfl)) (by decide) (by decide)) (aa_cons (b_len z_len rfl (e_v (i := 1) rfl (by first | exact .inl rfl | exact .inr (.inl rfl) | exact .inr (.inr rfl)) (by decide) (by decide)) rfl) aa_nil rfl) rfl) rfl) (fun _ _ => rfl))) ss_nil)
def b__law_rounds : List ST := [.ret (.lrng (.blt .max2 [.c (.int 1), .blt .min2 [.blt .len [.v 0], .c (.int 3)]]))]
def g__law_rounds : Ctx := ⟨[], [], [], ["Rising"], []⟩
def f__law_rounds : Fn := ⟨1, none, semB g__law_rounds 1 none b__law_rounds⟩
theorem sc__law_rounds : FnScope ["_law_script"] ["_law_script"] (defScope (top 48)) := ⟨rfl, rfl, rfl, by decide +kernel, rfl, by decide +kernel, by decide +kernel⟩
theorem ok__law_rounds {f : Addr} {fd : FuncData} (F : Fun K "_law_rounds" "_law_rounds" (top 48) f fd) (z_list : mg "list" = none) (z_range : mg "range" = none) (z_max : mg "max" = none) (z_min : mg "min" = none) (z_len : mg "len" = none) :
    FnOk P w K mg base (L2.CX P w) 1 f fd ["_law_script"] (spF K 1 none (semB g__law_rounds 1 none b__law_rounds)) :=
  have S := sc__law_rounds
  fn_body F S (by decide) fun cdv A outer s H E hr =>
    (ss_cons (st_ret (e_lrng rfl rfl z_list rfl z_range (b_max rfl z_max rfl xi (b_min rfl z_min rfl (b_len z_len rfl (e_v (i := 0) rfl (by first | exact .inl rfl | exact .inr (.inl rfl) | exact .inr (.inr rfl)) (by decide) (by decide)) rfl) xi rfl rfl) rfl rfl) rfl)) ss_nil)
def b__law_rows : List ST := [.parl3 2 3 (.c (.int 0)) 4 (.call 0 [.v 0, .c (.int 5)]), .for_ (.name 1) (.rng1 (.call 0 [.v 0, .c (.int 6)])) [.par [6, 7] [.cmp .eq (.call 0 [.v 0, .c (.int 2)]) (.c (.int 0)), .bin .add (.c (.int 1)) (.call 0 [.v 0, .c (.int 6)])], .if_ (.not_ (.v 6)) [.asg (.name 7) (.blt .min2 [.blt .int [.v 7], .blt .int [.bin .add (.bin .sub (.v 4) (.v 3)) (.c (.int 1))]])] [], .expr (.app 2 (.tup [.v 3, .v 4, .v 6])), .asg (.name 5) (.bin .add (.v 4) (.bin .mul (.bin .sub (.v 7) (.c (.int 1))) (.blt .int [.v 6]))), .asg (.name 3) (.bin .add (.v 3) (.v 7)), .asg (.name 4) (.bin .add (.blt .max2 [.blt .int [.v 5], .blt .int [.v 3]]) (.call 1 [.v 0, .lst [.c (.int 0), .c (.int 0), .c (.int 0), .c (.int 1), .c (.int 1), .c (.int 2), .c (.int 7)]]))], .if_ (.cmp .eq (.call 0 [.v 0, .c (.int 3)]) (.c (.int 0))) [.ret (.bin .add (.v 2) (.lst [.tup [.v 3, .c .non, .c (.bl false)]]))] [], .ret (.bin .add (.v 2) (.lst [.tup [.v 3, .v 4, .c (.bl true)]]))]
def g__law_rows : Ctx := ⟨[f__law_take, f__law_one], [], [], ["Rising"], []⟩
def f__law_rows : Fn := ⟨1, some 0, semB g__law_rows 8 (some 0) b__law_rows⟩
theorem sc__law_rows : FnScope ["_law_source", "_law_turn", "_law_rows_here", "_law_start", "_law_value_here", "_law_ahead", "_law_grows", "_law_many"] ["_law_source"] (defScope (top 49)) := ⟨rfl, rfl, rfl, by decide +kernel, rfl, by decide +kernel, by decide +kernel⟩
theorem ok__law_rows {f : Addr} {fd : FuncData} (F : Fun K "_law_rows" "_law_rows" (top 49) f fd) (F__law_take : FnF P w K mg base 1 "_law_take" f__law_take) (F__law_one : FnF P w K mg base 2 "_law_one" f__law_one) (z_range : mg "range" = none) (z_min : mg "min" = none) (z_int : mg "int" = none) (z_max : mg "max" = none) :
    FnOk P w K mg base (L2.CX P w) 3 f fd ["_law_source"] (spF K 1 (some 0) (semB g__law_rows 8 (some 0) b__law_rows)) :=
  have S := sc__law_rows
  fn_body F S (by decide) fun cdv A outer s H E hr =>
    (ss_cons (st_parl3 (ps_par3 (i := 2) (j := 3) (l := 4) rfl S.nd rfl rfl rfl (by decide) (by decide) (by decide) rfl rfl rfl (pa_nil3 xi (e_call F__law_take rfl (hr.mono (by decide)) (takes_of rfl rfl rfl rfl) rfl (aa_cons (e_v (i := 0) rfl (by first | exact .inl rfl | exact .inr (.inl rfl) | exact .inr (.inr rfl)) (by decide) (by decide)) (aa_cons xi aa_nil rfl) rfl) rfl) rfl rfl) rfl rfl)) (ss_cons (st_for (ps_for (passes_of rfl) rfl (i_rng1 rfl z_range (e_call F__law_take rfl (hr.mono (by decide)) (takes_of rfl rfl rfl rfl) rfl (aa_cons (e_v (i := 0) rfl (by first | exact .inl rfl | exact .inr (.inl rfl) | exact .inr (.inr rfl)) (by decide) (by decide)) (aa_cons xi aa_nil rfl) rfl) rfl) rfl) (pg_name (i := 1) S.nd rfl (by first | exact .inl rfl | exact .inr rfl) (by first | exact .inl rfl | exact .inr rfl)) (ss_cons (st_par2 (ps_par (i := 6) (j := 7) rfl S.nd rfl rfl (by decide) rfl rfl (as_cons (x_eq (hu64 hr) (e_call F__law_take rfl (hr.mono (by decide)) (takes_of rfl rfl rfl rfl) rfl (aa_cons (e_v (i := 0) rfl (by first | exact .inl rfl | exact .inr (.inl rfl) | exact .inr (.inr rfl)) (by decide) (by decide)) (aa_cons xi aa_nil rfl) rfl) rfl) xi) (as_cons (x_add xi (e_call F__law_take rfl (hr.mono (by decide)) (takes_of rfl rfl rfl rfl) rfl (aa_cons (e_v (i := 0) rfl (by first | exact .inl rfl | exact .inr (.inl rfl) | exact .inr (.inr rfl)) (by decide) (by decide)) (aa_cons xi aa_nil rfl) rfl) rfl)) as_nil rfl) rfl) rfl rfl)) (ss_cons (st_if (t_not (t_truth (e_v (i := 6) rfl (by first | exact .inl rfl | exact .inr (.inl rfl) | exact .inr (.inr rfl)) (by decide) (by decide)) (fun _ => rfl))) (ss_cons (st_asg (ps_set (i := 7) S.nd rfl (by first | exact .inl rfl | exact .inr rfl) (b_min rfl z_min rfl (b_int z_int rfl (e_v (i := 7) rfl (by first | exact .inl rfl | exact .inr (.inl rfl) | exact .inr (.inr rfl)) (by decide) (by decide)) rfl) (b_int z_int rfl (x_add (x_sub (e_v (i := 4) rfl (by first | exact .inl rfl | exact .inr (.inl rfl) | exact .inr (.inr rfl)) (by decide) (by decide)) (e_v (i := 3) rfl (by first | exact .inl rfl | exact .inr (.inl rfl) | exact .inr (.inr rfl)) (by decide) (by decide))) xi) rfl) rfl rfl) rfl (by first | exact .inl rfl | exact .inr rfl))) ss_nil) ss_nil) (ss_cons (st_expr (e_app (i := 2) rfl (by first | exact .inl rfl | exact .inr (.inl rfl) | exact .inr (.inr rfl)) (by decide) (by decide) (e_tup (as_cons (e_v (i := 3) rfl (by first | exact .inl rfl | exact .inr (.inl rfl) | exact .inr (.inr rfl)) (by decide) (by decide)) (as_cons (e_v (i := 4) rfl (by first | exact .inl rfl | exact .inr (.inl rfl) | exact .inr (.inr rfl)) (by decide) (by decide)) (as_cons (e_v (i := 6) rfl (by first | exact .inl rfl | exact .inr (.inl rfl) | exact .inr (.inr rfl)) (by decide) (by decide)) as_nil rfl) rfl) rfl)) rfl (by rfl) rfl) rfl) (ss_cons (st_asg (ps_set (i := 5) S.nd rfl (by first | exact .inl rfl | exact .inr rfl) (x_add (e_v (i := 4) rfl (by first | exact .inl rfl | exact .inr (.inl rfl) | exact .inr (.inr rfl)) (by decide) (by decide)) (x_mul (x_sub (e_v (i := 7) rfl (by first | exact .inl rfl | exact .inr (.inl rfl) | exact .inr (.inr rfl)) (by decide) (by decide)) xi) (b_int z_int rfl (e_v (i := 6) rfl (by first | exact .inl rfl | exact .inr (.inl rfl) | exact .inr (.inr rfl)) (by decide) (by decide)) rfl))) rfl (by first | exact .inl rfl | exact .inr rfl))) (ss_cons (st_asg (ps_set (i := 3) S.nd rfl (by first | exact .inl rfl | exact .inr rfl) (x_add (e_v (i := 3) rfl (by first | exact .inl rfl | exact .inr (.inl rfl) | exact .inr (.inr rfl)) (by decide) (by decide)) (e_v (i := 7) rfl (by first | exact .inl rfl | exact .inr (.inl rfl) | exact .inr (.inr rfl)) (by decide) (by decide))) rfl (by first | exact .inl rfl | exact .inr rfl))) (ss_cons (st_asg (ps_set (i := 4) S.nd rfl (by first | exact .inl rfl | exact .inr rfl) (x_add (b_max rfl z_max rfl (b_int z_int rfl (e_v (i := 5) rfl (by first | exact .inl rfl | exact .inr (.inl rfl) | exact .inr (.inr rfl)) (by decide) (by decide)) rfl) (b_int z_int rfl (e_v (i := 3) rfl (by first | exact .inl rfl | exact .inr (.inl rfl) | exact .inr (.inr rfl)) (by decide) (by decide)) rfl) rfl rfl) (e_call F__law_one rfl (hr.mono (by decide)) (takes_of rfl rfl rfl rfl) rfl (aa_cons (e_v (i := 0) rfl (by first | exact .inl rfl | exact .inr (.inl rfl) | exact .inr (.inr rfl)) (by decide) (by decide)) (aa_cons (e_lst (as_cons xi (as_cons xi (as_cons xi (as_cons xi (as_cons xi (as_cons xi (as_cons xi as_nil rfl) rfl) rfl) rfl) rfl) rfl) rfl)) aa_nil rfl) rfl) rfl)) rfl (by first | exact .inl rfl | exact .inr rfl))) ss_nil)))))) (fun _ => rfl))) (ss_cons (st_if (y_eq (hu64 hr) (e_call F__law_take rfl (hr.mono (by decide)) (takes_of rfl rfl rfl rfl) rfl (aa_cons (e_v (i := 0) rfl (by first | exact .inl rfl | exact .inr (.inl rfl) | exact .inr (.inr rfl)) (by decide) (by decide)) (aa_cons xi aa_nil rfl) rfl) rfl) xi) (ss_cons (st_ret (x_add (e_v (i := 2) rfl (by first | exact .inl rfl | exact .inr (.inl rfl) | exact .inr (.inr rfl)) (by decide) (by decide)) (e_lst (as_cons (e_tup (as_cons (e_v (i := 3) rfl (by first | exact .inl rfl | exact .inr (.inl rfl) | exact .inr (.inr rfl)) (by decide) (by decide)) (as_cons xn (as_cons xb as_nil rfl) rfl) rfl)) as_nil rfl)))) ss_nil) ss_nil) (ss_cons (st_ret (x_add (e_v (i := 2) rfl (by first | exact .inl rfl | exact .inr (.inl rfl) | exact .inr (.inr rfl)) (by decide) (by decide)) (e_lst (as_cons (e_tup (as_cons (e_v (i := 3) rfl (by first | exact .inl rfl | exact .inr (.inl rfl) | exact .inr (.inr rfl)) (by decide) (by decide)) (as_cons (e_v (i := 4) rfl (by first | exact .inl rfl | exact .inr (.inl rfl) | exact .inr (.inr rfl)) (by decide) (by decide)) (as_cons xb as_nil rfl) rfl) rfl)) as_nil rfl)))) ss_nil))))
def b__law_value : List ST := [.asg (.name 2) (.ix (.lc (.name 3) (.seq (.v 0)) (some (.cmp .le (.ix (.v 3) (.c (.int 0))) (.v 1))) (.v 3) [3]) (.neg (.c (.int 1)))), .if_ (.cmp .is_ (.ix (.v 2) (.c (.int 1))) (.c .non)) [.ret (.c .non)] [], .ret (.bin .add (.ix (.v 2) (.c (.int 1))) (.bin .mul (.bin .sub (.v 1) (.ix (.v 2) (.c (.int 0)))) (.blt .int [.ix (.v 2) (.c (.int 2))])))]
def g__law_value : Ctx := ⟨[], [], [], ["Rising"], []⟩
def f__law_value : Fn := ⟨2, none, semB g__law_value 4 none b__law_value⟩
theorem sc__law_value : FnScope ["_law_rows_here", "_law_t", "_law_row", "_law_one_here"] ["_law_rows_here", "_law_t"] (defScope (top 50)) := ⟨rfl, rfl, rfl, by decide +kernel, rfl, by decide +kernel, by decide +kernel⟩
theorem ok__law_value {f : Addr} {fd : FuncData} (F : Fun K "_law_value" "_law_value" (top 50) f fd) (z_int : mg "int" = none) :
    FnOk P w K mg base (L2.CX P w) 1 f fd ["_law_rows_here", "_law_t"] (spF K 2 none (semB g__law_value 4 none b__law_value)) :=
  have S := sc__law_value
  fn_body F S (by decide) fun cdv A outer s H E hr =>
    (ss_cons (st_asg (ps_set (i := 2) S.nd rfl (by first | exact .inl rfl | exact .inr rfl) (e_ix (e_lc (own := [("_law_one_here", 3)]) rfl S.nd (i_seq (e_v (i := 0) rfl (by first | exact .inl rfl | exact .inr (.inl rfl) | exact .inr (.inr rfl)) (by decide) (by decide))) (blkOk_by (N := ["_law_rows_here", "_law_t", "_law_row", "_law_one_here"]) (sc := defScope (top 50)) (by decide +kernel)) (fun _ _ _ _ _ => (pg_name (i := 3) S.nd rfl (by first | exact .inl rfl | exact .inr rfl) (by first | exact .inl rfl | exact .inr rfl))) (fun _ _ _ _ _ => (pts_one (y_le (e_ix (e_v (i := 3) rfl (by first | exact .inl rfl | exact .inr (.inl rfl) | exact .inr (.inr rfl)) (by decide) (by decide)) xi (fun _ _ => rfl)) (e_v (i := 1) rfl (by first | exact .inl rfl | exact .inr (.inl rfl) | exact .inr (.inr rfl)) (by decide) (by decide))))) (fun _ _ _ _ _ => (e_v (i := 3) rfl (by first | exact .inl rfl | exact .inr (.inl rfl) | exact .inr (.inr rfl)) (by decide) (by decide))) (fun _ => rfl)) (e_neg xi) (fun _ _ => rfl)) rfl (by first | exact .inl rfl | exact .inr rfl))) (ss_cons (st_if (y_is (e_ix (e_v (i := 2) rfl (by first | exact .inl rfl | exact .inr (.inl rfl) | exact .inr (.inr rfl)) (by decide) (by decide)) xi (fun _ _ => rfl)) xn) (ss_cons (st_ret xn) ss_nil) ss_nil) (ss_cons (st_ret (x_add (e_ix (e_v (i := 2) rfl (by first | exact .inl rfl | exact .inr (.inl rfl) | exact .inr (.inr rfl)) (by decide) (by decide)) xi (fun _ _ => rfl)) (x_mul (x_sub (e_v (i := 1) rfl (by first | exact .inl rfl | exact .inr (.inl rfl) | exact .inr (.inr rfl)) (by decide) (by decide)) (e_ix (e_v (i := 2) rfl (by first | exact .inl rfl | exact .inr (.inl rfl) | exact .inr (.inr rfl)) (by decide) (by decide)) xi (fun _ _ => rfl))) (b_int z_int rfl (e_ix (e_v (i := 2) rfl (by first | exact .inl rfl | exact .inr (.inl rfl) | exact .inr (.inr rfl)) (by decide) (by decide)) xi (fun _ _ => rfl)) rfl)))) ss_nil)))
def b__law_values : List ST := [.ret (.lc (.name 2) (.rng1 (.v 1)) none (.meth 0 (.v 0) [.v 2]) [2])]
def g__law_values : Ctx := ⟨[], [m_Rising___call__], [], ["Rising"], []⟩
def f__law_values : Fn := ⟨2, none, semB g__law_values 3 none b__law_values⟩
theorem sc__law_values : FnScope ["_law_call", "_law_many", "_law_t"] ["_law_call", "_law_many"] (defScope (top 51)) := ⟨rfl, rfl, rfl, by decide +kernel, rfl, by decide +kernel, by decide +kernel⟩
theorem ok__law_values {f : Addr} {fd : FuncData} (F : Fun K "_law_values" "_law_values" (top 51) f fd) (M___call__ : MtF P w K mg base 5 m_Rising___call__) (cf_Rising : CallFn K (clsAt K "Rising")) (z_range : mg "range" = none) :
    FnOk P w K mg base (L2.CX P w) 6 f fd ["_law_call", "_law_many"] (spF K 2 none (semB g__law_values 3 none b__law_values)) :=
  have S := sc__law_values
  fn_body F S (by decide) fun cdv A outer s H E hr =>
    (ss_cons (st_ret (e_lc (own := [("_law_t", 2)]) rfl S.nd (i_rng1 rfl z_range (e_v (i := 1) rfl (by first | exact .inl rfl | exact .inr (.inl rfl) | exact .inr (.inr rfl)) (by decide) (by decide)) rfl) (blkOk_by (N := ["_law_call", "_law_many", "_law_t"]) (sc := defScope (top 51)) (by decide +kernel)) (fun _ _ _ _ _ => (pg_name (i := 2) S.nd rfl (by first | exact .inl rfl | exact .inr rfl) (by first | exact .inl rfl | exact .inr rfl))) (fun _ _ _ _ _ => pts_nil) (fun _ _ _ _ _ => (e_ocall (m := m_Rising___call__) M___call__ rfl cf_Rising rfl (hr.mono (by decide)) takes0 (e_v (i := 0) rfl (by first | exact .inl rfl | exact .inr (.inl rfl) | exact .inr (.inr rfl)) (by decide) (by decide)) (as_cons (e_v (i := 2) rfl (by first | exact .inl rfl | exact .inr (.inl rfl) | exact .inr (.inr rfl)) (by decide) (by decide)) as_nil rfl) rfl rfl)) (fun _ => rfl))) ss_nil)
def b__law_above : List ST := [.ret (.and_ (.cmp .isnot (.v 1) (.c .non)) (.or_ (.cmp .is_ (.v 0) (.c .non)) (.cmp .gt (.v 0) (.v 1))))]
def g__law_above : Ctx := ⟨[], [], [], ["Rising"], []⟩
def f__law_above : Fn := ⟨2, none, semB g__law_above 2 none b__law_above⟩
theorem sc__law_above : FnScope ["_law_one_here", "_law_other"] ["_law_one_here", "_law_other"] (defScope (top 52)) := ⟨rfl, rfl, rfl, by decide +kernel, rfl, by decide +kernel, by decide +kernel⟩
theorem ok__law_above {f : Addr} {fd : FuncData} (F : Fun K "_law_above" "_law_above" (top 52) f fd)  :
    FnOk P w K mg base (L2.CX P w) 1 f fd ["_law_one_here", "_law_other"] (spF K 2 none (semB g__law_above 2 none b__law_above)) :=
  have S := sc__law_above
  fn_body F S (by decide) fun cdv A outer s H E hr =>
    (ss_cons (st_ret (e_and (x_isnot (e_v (i := 1) rfl (by first | exact .inl rfl | exact .inr (.inl rfl) | exact .inr (.inr rfl)) (by decide) (by decide)) xn) (pe_one (e_or (x_is (e_v (i := 0) rfl (by first | exact .inl rfl | exact .inr (.inl rfl) | exact .inr (.inr rfl)) (by decide) (by decide)) xn) (pe_one (x_gt (e_v (i := 0) rfl (by first | exact .inl rfl | exact .inr (.inl rfl) | exact .inr (.inr rfl)) (by decide) (by decide)) (e_v (i := 1) rfl (by first | exact .inl rfl | exact .inr (.inl rfl) | exact .inr (.inr rfl)) (by decide) (by decide)))))))) ss_nil)
def cs__law_caught : List HC := [⟨"BadPart", "part", "part", false⟩, ⟨"BadIndex", "index", "index", false⟩, ⟨"BadNumber", "number", "number", true⟩]
theorem sc__law_caught : FnScope ["_law_call", "e"] ["_law_call"] (defScope (top 53)) := ⟨rfl, rfl, rfl, by decide +kernel, rfl, by decide +kernel, by decide +kernel⟩
theorem hG__law_caught {X : Cx} {q : Str} {g : Addr} {cdv : Value} {I_BadPart I_BadIndex I_BadNumber : Addr} (hgd : X.A.guards = some []) (hu : X.A.units + 100 < cLine) (z_repr : X.mg "repr" = none) (T_BadPart : PySem.ErrBadPart.LowTxt X.K X.mg (clsAt X.K "BadPart") I_BadPart) (T_BadIndex : PySem.ErrBadIndex.LowTxt X.K X.mg (clsAt X.K "BadIndex") I_BadIndex) (T_BadNumber : PySem.ErrBadNumber.LowTxt X.K X.mg (clsAt X.K "BadNumber") I_BadNumber) :
    LamX.GivesTo X ["_law_call", "e"] "_law_caught" (defScope (top 53)) g cdv (defBody (top 53)) "_law_call" q (THeard X.K cs__law_caught) :=
  heard_gives (i := 1) (by decide) rfl rfl (fun _ => rfl) fun s H => (.more ⟨rfl, by decide, .inl T_BadPart.gC⟩ (fun ea eo cls d pn hz hf => cl_dat (Y := (cxOf C8.CX0 X.prog X.w X.K X.mg X.base ["_law_call", "e"] "_law_caught" (defScope (top 53)) g cdv X.A X.stack s H C8.E0).nox) (c := ⟨"BadPart", "part", "part", false⟩) (n := "e") (i := 1) rfl (pe_byLow_BadPart (X := (cxOf C8.CX0 X.prog X.w X.K X.mg X.base ["_law_call", "e"] "_law_caught" (defScope (top 53)) g cdv X.A X.stack s H C8.E0).nox) T_BadPart hz hf (pe_var (i := 1) rfl (by first | exact .inl rfl | exact .inr (.inl rfl) | exact .inr (.inr rfl)))) (by show 1 < 2; decide)) (.more ⟨rfl, by decide, .inl T_BadIndex.gC⟩ (fun ea eo cls d pn hz hf => cl_dat (Y := (cxOf C8.CX0 X.prog X.w X.K X.mg X.base ["_law_call", "e"] "_law_caught" (defScope (top 53)) g cdv X.A X.stack s H C8.E0).nox) (c := ⟨"BadIndex", "index", "index", false⟩) (n := "e") (i := 1) rfl (pe_byLow_BadIndex (X := (cxOf C8.CX0 X.prog X.w X.K X.mg X.base ["_law_call", "e"] "_law_caught" (defScope (top 53)) g cdv X.A X.stack s H C8.E0).nox) T_BadIndex hz hf (pe_var (i := 1) rfl (by first | exact .inl rfl | exact .inr (.inl rfl) | exact .inr (.inr rfl)))) (by show 1 < 2; decide)) (.more ⟨rfl, by decide, .inl T_BadNumber.gC⟩ (fun ea eo cls d pn hz hf => cl_rep (k := 0) (Y := (cxOf C8.CX0 X.prog X.w X.K X.mg X.base ["_law_call", "e"] "_law_caught" (defScope (top 53)) g cdv X.A X.stack s H C8.E0).nox) (c := ⟨"BadNumber", "number", "number", true⟩) (n := "e") (i := 1) rfl (pe_byLow_BadNumber (X := (cxOf C8.CX0 X.prog X.w X.K X.mg X.base ["_law_call", "e"] "_law_caught" (defScope (top 53)) g cdv X.A X.stack s H C8.E0).nox) T_BadNumber hz hf (pe_var (i := 1) rfl (by first | exact .inl rfl | exact .inr (.inl rfl) | exact .inr (.inr rfl)))) (by show 1 < 2; decide) hgd (by show X.A.units + 3 + 64 < _; omega) rfl z_repr) .none_)))
def b__law_turned_row : List ST := [.asg (.name 2) (.call 0 [.v 0, .c (.int 4)]), .if_ (.cmp .eq (.v 2) (.c (.int 0))) [.ret (.v 1)] [], .if_ (.cmp .eq (.v 2) (.c (.int 1))) [.ret (.bin .add (.sl (.v 1) none (some (.neg (.c (.int 1))))) (.lst [.tup [.ix (.ix (.v 1) (.neg (.c (.int 1)))) (.c (.int 0)), .c .non, .c (.bl false)]]))] [], .asg (.name 3) (.ix (.ix (.v 1) (.neg (.c (.int 1)))) (.c (.int 0))), .asg (.name 4) (.ite (.cmp .eq (.v 3) (.c (.int 0))) (.lst [.c (.int 0)]) (.lst [.call 1 [.v 1, .bin .sub (.v 3) (.c (.int 1))]])), .asg (.name 5) (.bin .add (.blt .maxl [.lc (.name 6) (.seq (.bin .add (.lst [.v 3]) (.v 4))) none (.blt .int [.v 6]) [6]]) (.call 0 [.v 0, .c (.int 3)])), .ret (.bin .add (.sl (.v 1) none (some (.neg (.c (.int 1))))) (.lst [.tup [.v 3, .v 5, .c (.bl true)]]))]
def g__law_turned_row : Ctx := ⟨[f__law_take, f__law_value], [], [], ["Rising"], []⟩
def f__law_turned_row : Fn := ⟨2, some 0, semB g__law_turned_row 7 (some 0) b__law_turned_row⟩
theorem cl__law_turned_row_1 {a0 a1 : IR} {env : Env} : ev g__law_turned_row (.call 1 [a0, a1]) env = (evs g__law_turned_row [a0, a1] env).bind fun ds e1 => runF e1 (f__law_value.sem ds) := ev_call rfl rfl rfl
theorem sc__law_turned_row : FnScope ["_law_source", "_law_rows_here", "_law_way", "_law_start", "_law_ahead", "_law_value_here", "_law_one_here"] ["_law_source", "_law_rows_here"] (defScope (top 54)) := ⟨rfl, rfl, rfl, by decide +kernel, rfl, by decide +kernel, by decide +kernel⟩
theorem ok__law_turned_row {f : Addr} {fd : FuncData} (F : Fun K "_law_turned_row" "_law_turned_row" (top 54) f fd) (F__law_take : FnF P w K mg base 1 "_law_take" f__law_take) (F__law_value : FnF P w K mg base 1 "_law_value" f__law_value) (z_max : mg "max" = none) (z_int : mg "int" = none) :
    FnOk P w K mg base (L2.CX P w) 2 f fd ["_law_source", "_law_rows_here"] (spF K 2 (some 0) (semB g__law_turned_row 7 (some 0) b__law_turned_row)) :=
  have S := sc__law_turned_row
  fn_body F S (by decide) fun cdv A outer s H E hr =>
    (ss_cons (st_asg (ps_set (i := 2) S.nd rfl (by first | exact .inl rfl | exact .inr rfl) (e_call F__law_take rfl (hr.mono (by decide)) (takes_of rfl rfl rfl rfl) rfl (aa_cons (e_v (i := 0) rfl (by first | exact .inl rfl | exact .inr (.inl rfl) | exact .inr (.inr rfl)) (by decide) (by decide)) (aa_cons xi aa_nil rfl) rfl) rfl) rfl (by first | exact .inl rfl | exact .inr rfl))) (ss_cons (st_if (y_eq (hu64 hr) (e_v (i := 2) rfl (by first | exact .inl rfl | exact .inr (.inl rfl) | exact .inr (.inr rfl)) (by decide) (by decide)) xi) (ss_cons (st_ret (e_v (i := 1) rfl (by first | exact .inl rfl | exact .inr (.inl rfl) | exact .inr (.inr rfl)) (by decide) (by decide))) ss_nil) ss_nil) (ss_cons (st_if (y_eq (hu64 hr) (e_v (i := 2) rfl (by first | exact .inl rfl | exact .inr (.inl rfl) | exact .inr (.inr rfl)) (by decide) (by decide)) xi) (ss_cons (st_ret (x_add (e_sl (e_v (i := 1) rfl (by first | exact .inl rfl | exact .inr (.inl rfl) | exact .inr (.inr rfl)) (by decide) (by decide)) po_none' (po_some' (e_neg xi))) (e_lst (as_cons (e_tup (as_cons (e_ix (e_ix (e_v (i := 1) rfl (by first | exact .inl rfl | exact .inr (.inl rfl) | exact .inr (.inr rfl)) (by decide) (by decide)) (e_neg xi) (fun _ _ => rfl)) xi (fun _ _ => rfl)) (as_cons xn (as_cons xb as_nil rfl) rfl) rfl)) as_nil rfl)))) ss_nil) ss_nil) (ss_cons (st_asg (ps_set (i := 3) S.nd rfl (by first | exact .inl rfl | exact .inr rfl) (e_ix (e_ix (e_v (i := 1) rfl (by first | exact .inl rfl | exact .inr (.inl rfl) | exact .inr (.inr rfl)) (by decide) (by decide)) (e_neg xi) (fun _ _ => rfl)) xi (fun _ _ => rfl)) rfl (by first | exact .inl rfl | exact .inr rfl))) (ss_cons (st_asg (ps_set (i := 4) S.nd rfl (by first | exact .inl rfl | exact .inr rfl) (e_ite (y_eq (hu64 hr) (e_v (i := 3) rfl (by first | exact .inl rfl | exact .inr (.inl rfl) | exact .inr (.inr rfl)) (by decide) (by decide)) xi) (e_lst (as_cons xi as_nil rfl)) (e_lst (as_cons (e_call F__law_value rfl (hr.mono (by decide)) (takes_of rfl rfl rfl rfl) rfl (aa_cons (e_v (i := 1) rfl (by first | exact .inl rfl | exact .inr (.inl rfl) | exact .inr (.inr rfl)) (by decide) (by decide)) (aa_cons (x_sub (e_v (i := 3) rfl (by first | exact .inl rfl | exact .inr (.inl rfl) | exact .inr (.inr rfl)) (by decide) (by decide)) xi) aa_nil rfl) rfl) rfl) as_nil rfl))) rfl (by first | exact .inl rfl | exact .inr rfl))) (ss_cons (st_asg (ps_set (i := 5) S.nd rfl (by first | exact .inl rfl | exact .inr rfl) (x_add (b_maxl rfl z_max rfl (e_lc (own := [("_law_one_here", 6)]) rfl S.nd (i_seq (x_add (e_lst (as_cons (e_v (i := 3) rfl (by first | exact .inl rfl | exact .inr (.inl rfl) | exact .inr (.inr rfl)) (by decide) (by decide)) as_nil rfl)) (e_v (i := 4) rfl (by first | exact .inl rfl | exact .inr (.inl rfl) | exact .inr (.inr rfl)) (by decide) (by decide)))) (blkOk_by (N := ["_law_source", "_law_rows_here", "_law_way", "_law_start", "_law_ahead", "_law_value_here", "_law_one_here"]) (sc := defScope (top 54)) (by decide +kernel)) (fun _ _ _ _ _ => (pg_name (i := 6) S.nd rfl (by first | exact .inl rfl | exact .inr rfl) (by first | exact .inl rfl | exact .inr rfl))) (fun _ _ _ _ _ => pts_nil) (fun _ _ _ _ _ => (b_int z_int rfl (e_v (i := 6) rfl (by first | exact .inl rfl | exact .inr (.inl rfl) | exact .inr (.inr rfl)) (by decide) (by decide)) rfl)) (fun _ => rfl)) rfl) (e_call F__law_take rfl (hr.mono (by decide)) (takes_of rfl rfl rfl rfl) rfl (aa_cons (e_v (i := 0) rfl (by first | exact .inl rfl | exact .inr (.inl rfl) | exact .inr (.inr rfl)) (by decide) (by decide)) (aa_cons xi aa_nil rfl) rfl) rfl)) rfl (by first | exact .inl rfl | exact .inr rfl))) (ss_cons (st_ret (x_add (e_sl (e_v (i := 1) rfl (by first | exact .inl rfl | exact .inr (.inl rfl) | exact .inr (.inr rfl)) (by decide) (by decide)) po_none' (po_some' (e_neg xi))) (e_lst (as_cons (e_tup (as_cons (e_v (i := 3) rfl (by first | exact .inl rfl | exact .inr (.inl rfl) | exact .inr (.inr rfl)) (by decide) (by decide)) (as_cons (e_v (i := 5) rfl (by first | exact .inl rfl | exact .inr (.inl rfl) | exact .inr (.inr rfl)) (by decide) (by decide)) (as_cons xb as_nil rfl) rfl) rfl)) as_nil rfl)))) ss_nil)))))))
def b__law_last : List ST := [.asg (.name 1) (.lc (.name 2) (.rng1 (.blt .len [.v 0])) (some (.cmp .isnot (.ix (.v 0) (.v 2)) (.c .non))) (.v 2) [2]), .ret (.ite (.or_ (.cmp .eq (.blt .len [.v 1]) (.blt .len [.v 0])) (.cmp .eq (.v 1) (.lst []))) (.c .non) (.ix (.v 1) (.neg (.c (.int 1)))))]
def g__law_last : Ctx := ⟨[], [], [], ["Rising"], []⟩
def f__law_last : Fn := ⟨1, none, semB g__law_last 3 none b__law_last⟩
theorem sc__law_last : FnScope ["_law_values_here", "_law_some", "_law_at"] ["_law_values_here"] (defScope (top 55)) := ⟨rfl, rfl, rfl, by decide +kernel, rfl, by decide +kernel, by decide +kernel⟩
theorem ok__law_last {f : Addr} {fd : FuncData} (F : Fun K "_law_last" "_law_last" (top 55) f fd) (z_range : mg "range" = none) (z_len : mg "len" = none) :
    FnOk P w K mg base (L2.CX P w) 1 f fd ["_law_values_here"] (spF K 1 none (semB g__law_last 3 none b__law_last)) :=
  have S := sc__law_last
  fn_body F S (by decide) fun cdv A outer s H E hr =>
    (ss_cons (st_asg (st_lc (ps_setLc (i := 1) (own := [("_law_at", 2)]) rfl S.nd rfl rfl (sw_true rfl rfl rfl (by decide +kernel)) (i_rng1 rfl z_range (b_len z_len rfl (e_v (i := 0) rfl (by first | exact .inl rfl | exact .inr (.inl rfl) | exact .inr (.inr rfl)) (by decide) (by decide)) rfl) rfl) (blkOk_by (N := ["_law_values_here", "_law_some", "_law_at"]) (sc := defScope (top 55)) (by decide +kernel)) (fun _ _ _ _ _ => (pg_name (i := 2) S.nd rfl (by first | exact .inl rfl | exact .inr rfl) (by first | exact .inl rfl | exact .inr rfl))) (fun _ _ _ _ _ => (pts_one (y_isnot (e_ix (e_v (i := 0) rfl (by first | exact .inl rfl | exact .inr (.inl rfl) | exact .inr (.inr rfl)) (by decide) (by decide)) (e_v (i := 2) rfl (by first | exact .inl rfl | exact .inr (.inl rfl) | exact .inr (.inr rfl)) (by decide) (by decide)) (fun _ _ => rfl)) xn))) (fun _ _ _ _ _ => (e_v (i := 2) rfl (by first | exact .inl rfl | exact .inr (.inl rfl) | exact .inr (.inr rfl)) (by decide) (by decide))) (fun _ => rfl)))) (ss_cons (st_ret (e_ite (PW.pt (w_or (y_eq (hu64 hr) (b_len z_len rfl (e_v (i := 1) rfl (by first | exact .inl rfl | exact .inr (.inl rfl) | exact .inr (.inr rfl)) (by decide) (by decide)) rfl) (b_len z_len rfl (e_v (i := 0) rfl (by first | exact .inl rfl | exact .inr (.inl rfl) | exact .inr (.inr rfl)) (by decide) (by decide)) rfl)) (w_or1 (y_eq (hu64 hr) (e_v (i := 1) rfl (by first | exact .inl rfl | exact .inr (.inl rfl) | exact .inr (.inr rfl)) (by decide) (by decide)) (e_lst as_nil))))) xn (e_ix (e_v (i := 1) rfl (by first | exact .inl rfl | exact .inr (.inl rfl) | exact .inr (.inr rfl)) (by decide) (by decide)) (e_neg xi) (fun _ _ => rfl)))) ss_nil))
def b__law_asked_right : List ST := [.if_ (.cmp .ne (.call 0 [.v 0, .blt .len [.v 2]]) (.v 2)) [.ret (.c (.bl false))] [], .if_ (.or_ (.cmp .isnot (.meth 0 (.v 0) [.c .non]) (.c .non)) (.cmp .ne (.meth 1 (.v 0) []) (.call 1 [.v 2]))) [.ret (.c (.bl false))] [], .for_ (.name 3) (.seq (.lst [.bin .add (.blt .len [.v 2]) (.c (.int 1000)), .bin .pow (.c (.int 10)) (.c (.int 12))])) [.if_ (.cmp .ne (.meth 0 (.v 0) [.v 3]) (.call 2 [.v 1, .v 3])) [.ret (.c (.bl false))] []], .for_ (.name 4) (.seq (.lst [.bin .sub (.c (.int 0)) (.c (.int 1)), .c (.bl true), .c (.str "0"), .tup [.c (.int 0)], .bin .sub (.c (.int 0)) (.c (.int 5))])) [.if_ (.cmp .ne (.heard cs__law_caught (.meth 0 (.v 0) [.v 4])) (.lst [.c (.str "number"), .blt .repr [.v 4]])) [.ret (.c (.bl false))] []], .ret (.c (.bl true))]
def g__law_asked_right : Ctx := ⟨[f__law_values, f__law_last, f__law_value], [m_Rising___call__, m_Rising_last], [], ["Rising"], []⟩
def f__law_asked_right : Fn := ⟨3, none, semB g__law_asked_right 5 none b__law_asked_right⟩
theorem cl__law_asked_right_0 {a0 a1 : IR} {env : Env} : ev g__law_asked_right (.call 0 [a0, a1]) env = (evs g__law_asked_right [a0, a1] env).bind fun ds e1 => runF e1 (f__law_values.sem ds) := ev_call rfl rfl rfl
theorem cl__law_asked_right_1 {a0 : IR} {env : Env} : ev g__law_asked_right (.call 1 [a0]) env = (evs g__law_asked_right [a0] env).bind fun ds e1 => runF e1 (f__law_last.sem ds) := ev_call rfl rfl rfl
theorem cl__law_asked_right_2 {a0 a1 : IR} {env : Env} : ev g__law_asked_right (.call 2 [a0, a1]) env = (evs g__law_asked_right [a0, a1] env).bind fun ds e1 => runF e1 (f__law_value.sem ds) := ev_call rfl rfl rfl
theorem sc__law_asked_right : FnScope ["_law_made", "_law_rows_here", "_law_values_here", "_law_great", "_law_odd"] ["_law_made", "_law_rows_here", "_law_values_here"] (defScope (top 56)) := ⟨rfl, rfl, rfl, by decide +kernel, rfl, by decide +kernel, by decide +kernel⟩
theorem ok__law_asked_right {f : Addr} {fd : FuncData} (F : Fun K "_law_asked_right" "_law_asked_right" (top 56) f fd) (hgd : GdW.gd) {I_BadPart : Addr} (T_BadPart : PySem.ErrBadPart.LowTxt K mg (clsAt K "BadPart") I_BadPart) {I_BadIndex : Addr} (T_BadIndex : PySem.ErrBadIndex.LowTxt K mg (clsAt K "BadIndex") I_BadIndex) {I_BadNumber : Addr} (T_BadNumber : PySem.ErrBadNumber.LowTxt K mg (clsAt K "BadNumber") I_BadNumber) {h__law_caught : Addr} {v__law_caught : Value} (EF__law_caught : ClsFacts K cs__law_caught) (H__law_caught : HrdF K mg "_law_caught" (top 53) "_law_call" h__law_caught v__law_caught) {c_L P_L : Addr} (LT : LamT base mg fd (PySem.Str.ofString "_law_asked_right" ++ PySem.Str.ofString ".<locals>.") c_L P_L) (F__law_values : FnF P w K mg base 6 "_law_values" f__law_values) (F__law_last : FnF P w K mg base 1 "_law_last" f__law_last) (F__law_value : FnF P w K mg base 1 "_law_value" f__law_value) (M___call__ : MtF P w K mg base 5 m_Rising___call__) (LM___call__ : @MtF _ ⟨False⟩ P w K mg base 5 m_Rising___call__) (M_last : MtF P w K mg base 1 m_Rising_last) (cf_Rising : CallFn K (clsAt K "Rising")) (z_len : mg "len" = none) (z_repr : mg "repr" = none) :
    FnOk P w K mg base (L2.CX P w) 8 f fd ["_law_made", "_law_rows_here", "_law_values_here"] (spF K 3 none (semB g__law_asked_right 5 none b__law_asked_right)) :=
  have S := sc__law_asked_right
  fn_bodyC F LT.code S (by decide) fun A outer s H E hr =>
    (ss_cons (st_if (y_ne (hu64 hr) (e_call F__law_values rfl (hr.mono (by decide)) (takes_of rfl rfl rfl rfl) rfl (aa_cons (e_v (i := 0) rfl (by first | exact .inl rfl | exact .inr (.inl rfl) | exact .inr (.inr rfl)) (by decide) (by decide)) (aa_cons (b_len z_len rfl (e_v (i := 2) rfl (by first | exact .inl rfl | exact .inr (.inl rfl) | exact .inr (.inr rfl)) (by decide) (by decide)) rfl) aa_nil rfl) rfl) rfl) (e_v (i := 2) rfl (by first | exact .inl rfl | exact .inr (.inl rfl) | exact .inr (.inr rfl)) (by decide) (by decide))) (ss_cons (st_ret xb) ss_nil) ss_nil) (ss_cons (st_if (PW.pt (w_or (y_isnot (e_ocall (m := m_Rising___call__) M___call__ rfl cf_Rising rfl (hr.mono (by decide)) (takes_of rfl rfl rfl rfl) (e_v (i := 0) rfl (by first | exact .inl rfl | exact .inr (.inl rfl) | exact .inr (.inr rfl)) (by decide) (by decide)) (as_cons xn as_nil rfl) rfl rfl) xn) (w_or1 (y_ne (hu64 hr) (e_meth0 (m := m_Rising_last) M_last rfl (hr.mono (by decide)) (takes_of rfl rfl rfl rfl) (e_v (i := 0) rfl (by first | exact .inl rfl | exact .inr (.inl rfl) | exact .inr (.inr rfl)) (by decide) (by decide)) rfl) (e_call F__law_last rfl (hr.mono (by decide)) (takes_of rfl rfl rfl rfl) rfl (aa_cons (e_v (i := 2) rfl (by first | exact .inl rfl | exact .inr (.inl rfl) | exact .inr (.inr rfl)) (by decide) (by decide)) aa_nil rfl) rfl))))) (ss_cons (st_ret xb) ss_nil) ss_nil) (ss_cons (st_for (ps_for (passes_of rfl) rfl (i_seq (e_lst (as_cons (x_add (b_len z_len rfl (e_v (i := 2) rfl (by first | exact .inl rfl | exact .inr (.inl rfl) | exact .inr (.inr rfl)) (by decide) (by decide)) rfl) xi) (as_cons (x_pow xi xi) as_nil rfl) rfl))) (pg_name (i := 3) S.nd rfl (by first | exact .inl rfl | exact .inr rfl) (by first | exact .inl rfl | exact .inr rfl)) (ss_cons (st_if (y_ne (hu64 hr) (e_ocall (m := m_Rising___call__) M___call__ rfl cf_Rising rfl (hr.mono (by decide)) (takes_of rfl rfl rfl rfl) (e_v (i := 0) rfl (by first | exact .inl rfl | exact .inr (.inl rfl) | exact .inr (.inr rfl)) (by decide) (by decide)) (as_cons (e_v (i := 3) rfl (by first | exact .inl rfl | exact .inr (.inl rfl) | exact .inr (.inr rfl)) (by decide) (by decide)) as_nil rfl) rfl rfl) (e_call F__law_value rfl (hr.mono (by decide)) (takes_of rfl rfl rfl rfl) rfl (aa_cons (e_v (i := 1) rfl (by first | exact .inl rfl | exact .inr (.inl rfl) | exact .inr (.inr rfl)) (by decide) (by decide)) (aa_cons (e_v (i := 3) rfl (by first | exact .inl rfl | exact .inr (.inl rfl) | exact .inr (.inr rfl)) (by decide) (by decide)) aa_nil rfl) rfl) rfl)) (ss_cons (st_ret xb) ss_nil) ss_nil) ss_nil) (fun _ => rfl))) (ss_cons (st_for (ps_for (passes_of rfl) rfl (i_seq (e_lst (as_cons (x_sub xi xi) (as_cons xb (as_cons xs (as_cons (e_tup (as_cons xi as_nil rfl)) (as_cons (x_sub xi xi) as_nil rfl) rfl) rfl) rfl) rfl))) (pg_name (i := 4) S.nd rfl (by first | exact .inl rfl | exact .inr rfl) (by first | exact .inl rfl | exact .inr rfl)) (ss_cons (st_if (y_ne (hu64 hr) (e_hrd (k := 5) EF__law_caught H__law_caught sc__law_caught rfl (by first | exact .inl rfl | exact .inr (.inl rfl) | exact .inr (.inr rfl)) (hG__law_caught (hr.g hgd) hr.r.u100 z_repr T_BadPart T_BadIndex T_BadNumber) LT (by rfl) (by rfl) (hr.r.mono (by decide)) (by rfl) (LamX.lamS_by (by first | rfl | kernel_rfl)) rfl (fun _ _ _ _ _ => rfl) (fun A2 out2 s2 H2 E2 f2 c2 hr2 => (e_ocallP (m := m_Rising___call__) LM___call__ rfl cf_Rising rfl (hr2.mono (by decide)) lam_takes (e_v (i := 0) rfl (by first | exact .inl rfl | exact .inr (.inl rfl) | exact .inr (.inr rfl)) (by decide) (by decide)) (as_cons (e_v (i := 4) rfl (by first | exact .inl rfl | exact .inr (.inl rfl) | exact .inr (.inr rfl)) (by decide) (by decide)) as_nil rfl) rfl rfl)) (by decide) (by decide) (by decide)) (e_lst (as_cons xs (as_cons (b_repr (hr.g hgd) hr.r z_repr rfl (e_v (i := 4) rfl (by first | exact .inl rfl | exact .inr (.inl rfl) | exact .inr (.inr rfl)) (by decide) (by decide)) rfl) as_nil rfl) rfl))) (ss_cons (st_ret xb) ss_nil) ss_nil) ss_nil) (fun _ => rfl))) (ss_cons (st_ret xb) ss_nil)))))
def b_law : List ST := [.for_ (.name 1) (.seq (.call 0 [.v 0])) [.new 2 (.call 0 [.v 0, .v 1]), .asg (.name 3) (.call 1 [.v 2]), .asg (.name 4) (.call 2 [.v 2, .lst [.call 1 [.v 2], .call 3 [.v 2, .v 3]]]), .asg (.name 5) (.bin .add (.bin .add (.c (.int 5)) (.blt .max2 [.blt .int [.ix (.ix (.v 3) (.neg (.c (.int 1)))) (.c (.int 0))], .blt .int [.ix (.ix (.v 4) (.neg (.c (.int 1)))) (.c (.int 0))]])) (.c (.int 12))), .asg (.tup [11, 12]) (.tup [.make 0 [.v 3], .make 0 [.v 4]]), .asg (.name 6) (.lc (.name 13) (.rng1 (.v 5)) none (.call 4 [.v 3, .v 13]) [13]), .asg (.name 7) (.lc (.name 13) (.rng1 (.v 5)) none (.call 4 [.v 4, .v 13]) [13]), .if_ (.not_ (.call 5 [.v 11, .v 3, .v 6])) [.ret (.c (.bl false))] [], .if_ (.not_ (.call 5 [.v 12, .v 4, .v 7])) [.ret (.c (.bl false))] [], .asg (.name 8) (.lc (.name 13) (.rng1 (.v 5)) (some (.cmp .ne (.ix (.v 6) (.v 13)) (.ix (.v 7) (.v 13)))) (.v 13) [13]), .asg (.name 9) (.lc (.name 13) (.rng1 (.v 5)) (some (.call 6 [.ix (.v 6) (.v 13), .ix (.v 7) (.v 13)])) (.v 13) [13]), .if_ (.or_ (.cmp .ne (.oeq false 0 (.v 11) (.v 12)) (.cmp .eq (.v 8) (.lst []))) (.cmp .ne (.ocmp 1 (.v 11) (.v 12)) (.cmp .eq (.v 9) (.lst [])))) [.ret (.c (.bl false))] [], .if_ (.cmp .ne (.call 7 [.v 11, .v 12]) (.ite (.cmp .ne (.v 8) (.lst [])) (.ix (.v 8) (.c (.int 0))) (.c .non))) [.ret (.c (.bl false))] [], .if_ (.cmp .ne (.call 8 [.v 11, .v 12]) (.ite (.cmp .ne (.v 9) (.lst [])) (.ix (.v 9) (.c (.int 0))) (.c .non))) [.ret (.c (.bl false))] [], .if_ (.or_ (.oeq false 0 (.v 11) (.v 3)) (.oeq false 0 (.v 11) (.c (.int 5)))) [.ret (.c (.bl false))] [], .for_ (.name 10) (.seq (.lst [.c .non, .v 3, .c (.int 5)])) [.if_ (.cmp .ne (.heard cs__law_caught (.call 7 [.v 11, .v 10])) (.lst [.c (.str "part"), .c (.str "maps")])) [.ret (.c (.bl false))] [], .if_ (.cmp .ne (.heard cs__law_caught (.call 8 [.v 10, .v 11])) (.lst [.c (.str "part"), .c (.str "maps")])) [.ret (.c (.bl false))] []]], .ret (.c (.bl true))]
def g_law : Ctx := ⟨[f__law_rounds, f__law_rows, f__law_one, f__law_turned_row, f__law_value, f__law_asked_right, f__law_above, f_first_unlike, f_first_above], [m_Rising___eq__, m_Rising___le__], [k_Rising], ["Rising"], [f__law_pool]⟩
theorem cl_law_0 {a0 : IR} {env : Env} : ev g_law (.call 0 [a0]) env = (evs g_law [a0] env).bind fun ds e1 => runF e1 (f__law_rounds.sem ds) := ev_call rfl rfl rfl
theorem cl_law_4 {a0 a1 : IR} {env : Env} : ev g_law (.call 4 [a0, a1]) env = (evs g_law [a0, a1] env).bind fun ds e1 => runF e1 (f__law_value.sem ds) := ev_call rfl rfl rfl
theorem cl_law_5 {a0 a1 a2 : IR} {env : Env} : ev g_law (.call 5 [a0, a1, a2]) env = (evs g_law [a0, a1, a2] env).bind fun ds e1 => runF e1 (f__law_asked_right.sem ds) := ev_call rfl rfl rfl
theorem cl_law_6 {a0 a1 : IR} {env : Env} : ev g_law (.call 6 [a0, a1]) env = (evs g_law [a0, a1] env).bind fun ds e1 => runF e1 (f__law_above.sem ds) := ev_call rfl rfl rfl
theorem cl_law_7 {a0 a1 : IR} {env : Env} : ev g_law (.call 7 [a0, a1]) env = (evs g_law [a0, a1] env).bind fun ds e1 => runF e1 (f_first_unlike.sem ds) := ev_call rfl rfl rfl
theorem cl_law_8 {a0 a1 : IR} {env : Env} : ev g_law (.call 8 [a0, a1]) env = (evs g_law [a0, a1] env).bind fun ds e1 => runF e1 (f_first_above.sem ds) := ev_call rfl rfl rfl
theorem sc_law : FnScope ["_law_script", "_law_k", "_law_source", "_law_rows_here", "_law_others", "_law_many", "_law_near", "_law_far", "_law_unlike", "_law_above_here", "_law_odd", "_law_one_here", "_law_other", "_law_t"] ["_law_script"] (defScope (top 57)) := ⟨rfl, rfl, rfl, by decide +kernel, rfl, by decide +kernel, by decide +kernel⟩
theorem ok_law {f : Addr} {fd : FuncData} (F : Fun K "law" "law" (top 57) f fd) (hgd : GdW.gd) {I_BadPart : Addr} (T_BadPart : PySem.ErrBadPart.LowTxt K mg (clsAt K "BadPart") I_BadPart) {I_BadIndex : Addr} (T_BadIndex : PySem.ErrBadIndex.LowTxt K mg (clsAt K "BadIndex") I_BadIndex) {I_BadNumber : Addr} (T_BadNumber : PySem.ErrBadNumber.LowTxt K mg (clsAt K "BadNumber") I_BadNumber) {h__law_caught : Addr} {v__law_caught : Value} (EF__law_caught : ClsFacts K cs__law_caught) (H__law_caught : HrdF K mg "_law_caught" (top 53) "_law_call" h__law_caught v__law_caught) {c_L P_L : Addr} (LT : LamT base mg fd (PySem.Str.ofString "law" ++ PySem.Str.ofString ".<locals>.") c_L P_L) (F__law_rounds : FnF P w K mg base 1 "_law_rounds" f__law_rounds) (F__law_rows : FnF P w K mg base 3 "_law_rows" f__law_rows) (F__law_one : FnF P w K mg base 2 "_law_one" f__law_one) (F__law_turned_row : FnF P w K mg base 2 "_law_turned_row" f__law_turned_row) (F__law_value : FnF P w K mg base 1 "_law_value" f__law_value) (F__law_asked_right : FnF P w K mg base 8 "_law_asked_right" f__law_asked_right) (F__law_above : FnF P w K mg base 1 "_law_above" f__law_above) (F_first_unlike : FnF P w K mg base 5 "first_unlike" f_first_unlike) (L_first_unlike : @FnF _ ⟨False⟩ P w K mg base 5 "first_unlike" f_first_unlike) (F_first_above : FnF P w K mg base 5 "first_above" f_first_above) (L_first_above : @FnF _ ⟨False⟩ P w K mg base 5 "first_above" f_first_above) (F__law_pool : FrF P w K mg base 1 "_law_pool" f__law_pool) (M___eq__ : MtF P w K mg base 1 m_Rising___eq__) (M___le__ : MtF P w K mg base 5 m_Rising___le__) (C_Rising : MkF P w K mg base 4 "Rising" k_Rising) (nf_Rising : NFo K "Rising") (z_max : mg "max" = none) (z_int : mg "int" = none) (z_range : mg "range" = none) (z_repr : mg "repr" = none) (hC : ∀ C, C ∈ (["Rising"] : List Str) → IsC K C) :
    FnOk P w K mg base (L2.CX P w) 9 f fd ["_law_script"] (spF K 1 none (semB g_law 14 none b_law)) :=
  have S := sc_law
  fn_bodyC F LT.code S (by decide) fun A outer s H E hr =>
    (ss_cons (st_for (ps_for (passes_of rfl) rfl (i_seq (e_call F__law_rounds rfl (hr.mono (by decide)) (takes_of rfl rfl rfl rfl) rfl (aa_cons (e_v (i := 0) rfl (by first | exact .inl rfl | exact .inr (.inl rfl) | exact .inr (.inr rfl)) (by decide) (by decide)) aa_nil rfl) rfl)) (pg_name (i := 1) S.nd rfl (by first | exact .inl rfl | exact .inr rfl) (by first | exact .inl rfl | exact .inr rfl)) (ss_cons (st_new (ps_set (i := 2) S.nd rfl (by first | exact .inl rfl | exact .inr rfl) (l_call F__law_pool rfl (hr.mono (by decide)) (takes_of rfl rfl rfl rfl) rfl (as_cons (e_v (i := 0) rfl (by first | exact .inl rfl | exact .inr (.inl rfl) | exact .inr (.inr rfl)) (by decide) (by decide)) (as_cons (e_v (i := 1) rfl (by first | exact .inl rfl | exact .inr (.inl rfl) | exact .inr (.inr rfl)) (by decide) (by decide)) as_nil rfl) rfl) rfl) rfl (by first | exact .inl rfl | exact .inr rfl))) (ss_cons (st_asg (ps_set (i := 3) S.nd rfl (by first | exact .inl rfl | exact .inr rfl) (e_call F__law_rows rfl (hr.mono (by decide)) (takes_of rfl rfl rfl rfl) rfl (aa_cons (e_v (i := 2) rfl (by first | exact .inl rfl | exact .inr (.inl rfl) | exact .inr (.inr rfl)) (by decide) (by decide)) aa_nil rfl) rfl) rfl (by first | exact .inl rfl | exact .inr rfl))) (ss_cons (st_asg (ps_set (i := 4) S.nd rfl (by first | exact .inl rfl | exact .inr rfl) (e_call F__law_one rfl (hr.mono (by decide)) (takes_of rfl rfl rfl rfl) rfl (aa_cons (e_v (i := 2) rfl (by first | exact .inl rfl | exact .inr (.inl rfl) | exact .inr (.inr rfl)) (by decide) (by decide)) (aa_cons (e_lst (as_cons (e_call F__law_rows rfl (hr.mono (by decide)) (takes_of rfl rfl rfl rfl) rfl (aa_cons (e_v (i := 2) rfl (by first | exact .inl rfl | exact .inr (.inl rfl) | exact .inr (.inr rfl)) (by decide) (by decide)) aa_nil rfl) rfl) (as_cons (e_call F__law_turned_row rfl (hr.mono (by decide)) (takes_of rfl rfl rfl rfl) rfl (aa_cons (e_v (i := 2) rfl (by first | exact .inl rfl | exact .inr (.inl rfl) | exact .inr (.inr rfl)) (by decide) (by decide)) (aa_cons (e_v (i := 3) rfl (by first | exact .inl rfl | exact .inr (.inl rfl) | exact .inr (.inr rfl)) (by decide) (by decide)) aa_nil rfl) rfl) rfl) as_nil rfl) rfl)) aa_nil rfl) rfl) rfl) rfl (by first | exact .inl rfl | exact .inr rfl))) (ss_cons (st_asg (ps_set (i := 5) S.nd rfl (by first | exact .inl rfl | exact .inr rfl) (x_add (x_add xi (b_max rfl z_max rfl (b_int z_int rfl (e_ix (e_ix (e_v (i := 3) rfl (by first | exact .inl rfl | exact .inr (.inl rfl) | exact .inr (.inr rfl)) (by decide) (by decide)) (e_neg xi) (fun _ _ => rfl)) xi (fun _ _ => rfl)) rfl) (b_int z_int rfl (e_ix (e_ix (e_v (i := 4) rfl (by first | exact .inl rfl | exact .inr (.inl rfl) | exact .inr (.inr rfl)) (by decide) (by decide)) (e_neg xi) (fun _ _ => rfl)) xi (fun _ _ => rfl)) rfl) rfl rfl)) xi) rfl (by first | exact .inl rfl | exact .inr rfl))) (ss_cons (st_asg (ps_asg (e_tup (as_cons (e_make C_Rising rfl (hr.mono (by decide)) (takes_of rfl rfl rfl rfl) rfl (as_cons (e_v (i := 3) rfl (by first | exact .inl rfl | exact .inr (.inl rfl) | exact .inr (.inr rfl)) (by decide) (by decide)) as_nil rfl) rfl) (as_cons (e_make C_Rising rfl (hr.mono (by decide)) (takes_of rfl rfl rfl rfl) rfl (as_cons (e_v (i := 4) rfl (by first | exact .inl rfl | exact .inr (.inl rfl) | exact .inr (.inr rfl)) (by decide) (by decide)) as_nil rfl) rfl) as_nil rfl) rfl)) (pg_tl rfl (pgs_cons (pg_name (i := 11) S.nd rfl (by first | exact .inl rfl | exact .inr rfl) (by first | exact .inl rfl | exact .inr rfl)) (pgs_cons (pg_name (i := 12) S.nd rfl (by first | exact .inl rfl | exact .inr rfl) (by first | exact .inl rfl | exact .inr rfl)) pgs_nil))) rfl rfl rfl)) (ss_cons (st_asg (ps_set (i := 6) S.nd rfl (by first | exact .inl rfl | exact .inr rfl) (e_lc (own := [("_law_t", 13)]) rfl S.nd (i_rng1 rfl z_range (e_v (i := 5) rfl (by first | exact .inl rfl | exact .inr (.inl rfl) | exact .inr (.inr rfl)) (by decide) (by decide)) rfl) (blkOk_by (N := ["_law_script", "_law_k", "_law_source", "_law_rows_here", "_law_others", "_law_many", "_law_near", "_law_far", "_law_unlike", "_law_above_here", "_law_odd", "_law_one_here", "_law_other", "_law_t"]) (sc := defScope (top 57)) (by decide +kernel)) (fun _ _ _ _ _ => (pg_name (i := 13) S.nd rfl (by first | exact .inl rfl | exact .inr rfl) (by first | exact .inl rfl | exact .inr rfl))) (fun _ _ _ _ _ => pts_nil) (fun _ _ _ _ _ => (e_call F__law_value rfl (hr.mono (by decide)) takes0 rfl (aa_cons (e_v (i := 3) rfl (by first | exact .inl rfl | exact .inr (.inl rfl) | exact .inr (.inr rfl)) (by decide) (by decide)) (aa_cons (e_v (i := 13) rfl (by first | exact .inl rfl | exact .inr (.inl rfl) | exact .inr (.inr rfl)) (by decide) (by decide)) aa_nil rfl) rfl) rfl)) (fun _ => rfl)) rfl (by first | exact .inl rfl | exact .inr rfl))) (ss_cons (st_asg (ps_set (i := 7) S.nd rfl (by first | exact .inl rfl | exact .inr rfl) (e_lc (own := [("_law_t", 13)]) rfl S.nd (i_rng1 rfl z_range (e_v (i := 5) rfl (by first | exact .inl rfl | exact .inr (.inl rfl) | exact .inr (.inr rfl)) (by decide) (by decide)) rfl) (blkOk_by (N := ["_law_script", "_law_k", "_law_source", "_law_rows_here", "_law_others", "_law_many", "_law_near", "_law_far", "_law_unlike", "_law_above_here", "_law_odd", "_law_one_here", "_law_other", "_law_t"]) (sc := defScope (top 57)) (by decide +kernel)) (fun _ _ _ _ _ => (pg_name (i := 13) S.nd rfl (by first | exact .inl rfl | exact .inr rfl) (by first | exact .inl rfl | exact .inr rfl))) (fun _ _ _ _ _ => pts_nil) (fun _ _ _ _ _ => (e_call F__law_value rfl (hr.mono (by decide)) takes0 rfl (aa_cons (e_v (i := 4) rfl (by first | exact .inl rfl | exact .inr (.inl rfl) | exact .inr (.inr rfl)) (by decide) (by decide)) (aa_cons (e_v (i := 13) rfl (by first | exact .inl rfl | exact .inr (.inl rfl) | exact .inr (.inr rfl)) (by decide) (by decide)) aa_nil rfl) rfl) rfl)) (fun _ => rfl)) rfl (by first | exact .inl rfl | exact .inr rfl))) (ss_cons (st_if (t_not (t_truth (e_call F__law_asked_right rfl (hr.mono (by decide)) (takes_of rfl rfl rfl rfl) rfl (aa_cons (e_v (i := 11) rfl (by first | exact .inl rfl | exact .inr (.inl rfl) | exact .inr (.inr rfl)) (by decide) (by decide)) (aa_cons (e_v (i := 3) rfl (by first | exact .inl rfl | exact .inr (.inl rfl) | exact .inr (.inr rfl)) (by decide) (by decide)) (aa_cons (e_v (i := 6) rfl (by first | exact .inl rfl | exact .inr (.inl rfl) | exact .inr (.inr rfl)) (by decide) (by decide)) aa_nil rfl) rfl) rfl) rfl) (fun _ => rfl))) (ss_cons (st_ret xb) ss_nil) ss_nil) (ss_cons (st_if (t_not (t_truth (e_call F__law_asked_right rfl (hr.mono (by decide)) (takes_of rfl rfl rfl rfl) rfl (aa_cons (e_v (i := 12) rfl (by first | exact .inl rfl | exact .inr (.inl rfl) | exact .inr (.inr rfl)) (by decide) (by decide)) (aa_cons (e_v (i := 4) rfl (by first | exact .inl rfl | exact .inr (.inl rfl) | exact .inr (.inr rfl)) (by decide) (by decide)) (aa_cons (e_v (i := 7) rfl (by first | exact .inl rfl | exact .inr (.inl rfl) | exact .inr (.inr rfl)) (by decide) (by decide)) aa_nil rfl) rfl) rfl) rfl) (fun _ => rfl))) (ss_cons (st_ret xb) ss_nil) ss_nil) (ss_cons (st_asg (st_lc (ps_setLc (i := 8) (own := [("_law_t", 13)]) rfl S.nd rfl rfl (sw_true rfl rfl rfl (by decide +kernel)) (i_rng1 rfl z_range (e_v (i := 5) rfl (by first | exact .inl rfl | exact .inr (.inl rfl) | exact .inr (.inr rfl)) (by decide) (by decide)) rfl) (blkOk_by (N := ["_law_script", "_law_k", "_law_source", "_law_rows_here", "_law_others", "_law_many", "_law_near", "_law_far", "_law_unlike", "_law_above_here", "_law_odd", "_law_one_here", "_law_other", "_law_t"]) (sc := defScope (top 57)) (by decide +kernel)) (fun _ _ _ _ _ => (pg_name (i := 13) S.nd rfl (by first | exact .inl rfl | exact .inr rfl) (by first | exact .inl rfl | exact .inr rfl))) (fun _ _ _ _ _ => (pts_one (y_ne (hu64 hr) (e_ix (e_v (i := 6) rfl (by first | exact .inl rfl | exact .inr (.inl rfl) | exact .inr (.inr rfl)) (by decide) (by decide)) (e_v (i := 13) rfl (by first | exact .inl rfl | exact .inr (.inl rfl) | exact .inr (.inr rfl)) (by decide) (by decide)) (fun _ _ => rfl)) (e_ix (e_v (i := 7) rfl (by first | exact .inl rfl | exact .inr (.inl rfl) | exact .inr (.inr rfl)) (by decide) (by decide)) (e_v (i := 13) rfl (by first | exact .inl rfl | exact .inr (.inl rfl) | exact .inr (.inr rfl)) (by decide) (by decide)) (fun _ _ => rfl))))) (fun _ _ _ _ _ => (e_v (i := 13) rfl (by first | exact .inl rfl | exact .inr (.inl rfl) | exact .inr (.inr rfl)) (by decide) (by decide))) (fun _ => rfl)))) (ss_cons (st_asg (st_lc (ps_setLc (i := 9) (own := [("_law_t", 13)]) rfl S.nd rfl rfl (sw_true rfl rfl rfl (by decide +kernel)) (i_rng1 rfl z_range (e_v (i := 5) rfl (by first | exact .inl rfl | exact .inr (.inl rfl) | exact .inr (.inr rfl)) (by decide) (by decide)) rfl) (blkOk_by (N := ["_law_script", "_law_k", "_law_source", "_law_rows_here", "_law_others", "_law_many", "_law_near", "_law_far", "_law_unlike", "_law_above_here", "_law_odd", "_law_one_here", "_law_other", "_law_t"]) (sc := defScope (top 57)) (by decide +kernel)) (fun _ _ _ _ _ => (pg_name (i := 13) S.nd rfl (by first | exact .inl rfl | exact .inr rfl) (by first | exact .inl rfl | exact .inr rfl))) (fun _ _ _ _ _ => (pts_one (t_truth (e_call F__law_above rfl (hr.mono (by decide)) takes0 rfl (aa_cons (e_ix (e_v (i := 6) rfl (by first | exact .inl rfl | exact .inr (.inl rfl) | exact .inr (.inr rfl)) (by decide) (by decide)) (e_v (i := 13) rfl (by first | exact .inl rfl | exact .inr (.inl rfl) | exact .inr (.inr rfl)) (by decide) (by decide)) (fun _ _ => rfl)) (aa_cons (e_ix (e_v (i := 7) rfl (by first | exact .inl rfl | exact .inr (.inl rfl) | exact .inr (.inr rfl)) (by decide) (by decide)) (e_v (i := 13) rfl (by first | exact .inl rfl | exact .inr (.inl rfl) | exact .inr (.inr rfl)) (by decide) (by decide)) (fun _ _ => rfl)) aa_nil rfl) rfl) rfl) (fun _ => rfl)))) (fun _ _ _ _ _ => (e_v (i := 13) rfl (by first | exact .inl rfl | exact .inr (.inl rfl) | exact .inr (.inr rfl)) (by decide) (by decide))) (fun _ => rfl)))) (ss_cons (st_if (PW.pt (w_or (y_ne (hu64 hr) (e_oeq (m := m_Rising___eq__) M___eq__ rfl (hC _ (.head _)) nf_Rising rfl (hr.mono (by decide)) (takes_of rfl rfl rfl rfl) (e_v (i := 11) rfl (by first | exact .inl rfl | exact .inr (.inl rfl) | exact .inr (.inr rfl)) (by decide) (by decide)) (e_v (i := 12) rfl (by first | exact .inl rfl | exact .inr (.inl rfl) | exact .inr (.inr rfl)) (by decide) (by decide)) rfl) (x_eq (hu64 hr) (e_v (i := 8) rfl (by first | exact .inl rfl | exact .inr (.inl rfl) | exact .inr (.inr rfl)) (by decide) (by decide)) (e_lst as_nil))) (w_or1 (y_ne (hu64 hr) (e_ocmp (m := m_Rising___le__) (fun _ _ => rfl) M___le__ rfl rfl (hr.mono (by decide)) (takes_of rfl rfl rfl rfl) (e_v (i := 11) rfl (by first | exact .inl rfl | exact .inr (.inl rfl) | exact .inr (.inr rfl)) (by decide) (by decide)) (e_v (i := 12) rfl (by first | exact .inl rfl | exact .inr (.inl rfl) | exact .inr (.inr rfl)) (by decide) (by decide)) rfl) (x_eq (hu64 hr) (e_v (i := 9) rfl (by first | exact .inl rfl | exact .inr (.inl rfl) | exact .inr (.inr rfl)) (by decide) (by decide)) (e_lst as_nil)))))) (ss_cons (st_ret xb) ss_nil) ss_nil) (ss_cons (st_if (y_ne (hu64 hr) (e_call F_first_unlike rfl (hr.mono (by decide)) (takes_of rfl rfl rfl rfl) rfl (aa_cons (e_v (i := 11) rfl (by first | exact .inl rfl | exact .inr (.inl rfl) | exact .inr (.inr rfl)) (by decide) (by decide)) (aa_cons (e_v (i := 12) rfl (by first | exact .inl rfl | exact .inr (.inl rfl) | exact .inr (.inr rfl)) (by decide) (by decide)) aa_nil rfl) rfl) rfl) (e_ite (y_ne (hu64 hr) (e_v (i := 8) rfl (by first | exact .inl rfl | exact .inr (.inl rfl) | exact .inr (.inr rfl)) (by decide) (by decide)) (e_lst as_nil)) (e_ix (e_v (i := 8) rfl (by first | exact .inl rfl | exact .inr (.inl rfl) | exact .inr (.inr rfl)) (by decide) (by decide)) xi (fun _ _ => rfl)) xn)) (ss_cons (st_ret xb) ss_nil) ss_nil) (ss_cons (st_if (y_ne (hu64 hr) (e_call F_first_above rfl (hr.mono (by decide)) (takes_of rfl rfl rfl rfl) rfl (aa_cons (e_v (i := 11) rfl (by first | exact .inl rfl | exact .inr (.inl rfl) | exact .inr (.inr rfl)) (by decide) (by decide)) (aa_cons (e_v (i := 12) rfl (by first | exact .inl rfl | exact .inr (.inl rfl) | exact .inr (.inr rfl)) (by decide) (by decide)) aa_nil rfl) rfl) rfl) (e_ite (y_ne (hu64 hr) (e_v (i := 9) rfl (by first | exact .inl rfl | exact .inr (.inl rfl) | exact .inr (.inr rfl)) (by decide) (by decide)) (e_lst as_nil)) (e_ix (e_v (i := 9) rfl (by first | exact .inl rfl | exact .inr (.inl rfl) | exact .inr (.inr rfl)) (by decide) (by decide)) xi (fun _ _ => rfl)) xn)) (ss_cons (st_ret xb) ss_nil) ss_nil) (ss_cons (st_if (PW.pt (w_or (t_oeq (m := m_Rising___eq__) M___eq__ rfl (hC _ (.head _)) nf_Rising rfl (hr.mono (by decide)) (takes_of rfl rfl rfl rfl) (e_v (i := 11) rfl (by first | exact .inl rfl | exact .inr (.inl rfl) | exact .inr (.inr rfl)) (by decide) (by decide)) (e_v (i := 3) rfl (by first | exact .inl rfl | exact .inr (.inl rfl) | exact .inr (.inr rfl)) (by decide) (by decide)) rfl) (w_or1 (t_oeq (m := m_Rising___eq__) M___eq__ rfl (hC _ (.head _)) nf_Rising rfl (hr.mono (by decide)) (takes_of rfl rfl rfl rfl) (e_v (i := 11) rfl (by first | exact .inl rfl | exact .inr (.inl rfl) | exact .inr (.inr rfl)) (by decide) (by decide)) xi rfl)))) (ss_cons (st_ret xb) ss_nil) ss_nil) (ss_cons (st_for (ps_for (passes_of rfl) rfl (i_seq (e_lst (as_cons xn (as_cons (e_v (i := 3) rfl (by first | exact .inl rfl | exact .inr (.inl rfl) | exact .inr (.inr rfl)) (by decide) (by decide)) (as_cons xi as_nil rfl) rfl) rfl))) (pg_name (i := 10) S.nd rfl (by first | exact .inl rfl | exact .inr rfl) (by first | exact .inl rfl | exact .inr rfl)) (ss_cons (st_if (y_ne (hu64 hr) (e_hrd (k := 5) EF__law_caught H__law_caught sc__law_caught rfl (by first | exact .inl rfl | exact .inr (.inl rfl) | exact .inr (.inr rfl)) (hG__law_caught (hr.g hgd) hr.r.u100 z_repr T_BadPart T_BadIndex T_BadNumber) LT (by rfl) (by rfl) (hr.r.mono (by decide)) (by rfl) (LamX.lamS_by (by first | rfl | kernel_rfl)) rfl (fun _ _ _ _ _ => rfl) (fun A2 out2 s2 H2 E2 f2 c2 hr2 => (e_callP L_first_unlike rfl (hr2.mono (by decide)) lam_takes rfl (aa_cons (e_v (i := 11) rfl (by first | exact .inl rfl | exact .inr (.inl rfl) | exact .inr (.inr rfl)) (by decide) (by decide)) (aa_cons (e_v (i := 10) rfl (by first | exact .inl rfl | exact .inr (.inl rfl) | exact .inr (.inr rfl)) (by decide) (by decide)) aa_nil rfl) rfl) rfl)) (by decide) (by decide) (by decide)) (e_lst (as_cons xs (as_cons xs as_nil rfl) rfl))) (ss_cons (st_ret xb) ss_nil) ss_nil) (ss_cons (st_if (y_ne (hu64 hr) (e_hrd (k := 5) EF__law_caught H__law_caught sc__law_caught rfl (by first | exact .inl rfl | exact .inr (.inl rfl) | exact .inr (.inr rfl)) (hG__law_caught (hr.g hgd) hr.r.u100 z_repr T_BadPart T_BadIndex T_BadNumber) LT (by rfl) (by rfl) (hr.r.mono (by decide)) (by rfl) (LamX.lamS_by (by first | rfl | kernel_rfl)) rfl (fun _ _ _ _ _ => rfl) (fun A2 out2 s2 H2 E2 f2 c2 hr2 => (e_callP L_first_above rfl (hr2.mono (by decide)) lam_takes rfl (aa_cons (e_v (i := 10) rfl (by first | exact .inl rfl | exact .inr (.inl rfl) | exact .inr (.inr rfl)) (by decide) (by decide)) (aa_cons (e_v (i := 11) rfl (by first | exact .inl rfl | exact .inr (.inl rfl) | exact .inr (.inr rfl)) (by decide) (by decide)) aa_nil rfl) rfl) rfl)) (by decide) (by decide) (by decide)) (e_lst (as_cons xs (as_cons xs as_nil rfl) rfl))) (ss_cons (st_ret xb) ss_nil) ss_nil) ss_nil)) (fun _ => rfl))) ss_nil)))))))))))))))) (fun _ => rfl))) (ss_cons (st_ret xb) ss_nil))
end
end Mp
set_option maxHeartbeats 4000000
namespace Mp
open PySem L2
variable [TabsW] [GdW]
variable [TabsW] [GdW]
variable [TabsW] [GdW]
theorem s_con (m : Option Nat) : f_is_count_or_never.sem [dM m] = .ok (.bl true) [] := by
  cases m with
  | none => rfl
  | some n =>
    have e : f_is_count_or_never.sem [.int (n : Int)] = .ok (.bl (decide (0 ≤ (n : Int)))) [] := by rfl
    show f_is_count_or_never.sem [.int (n : Int)] = _
    rw [e, decide_eq_true (by omega)]
theorem s_is_listed (ds : List D) : f_is_listed.sem [.lst ds] = .ok (.bl true) [] := by rfl
theorem ints_nat : ∀ (ns : List Nat), intsD (ns.map fun n : Nat => D.int (n : Int)) = some (ns.map fun n : Nat => (n : Int))
  | [] => rfl
  | n :: ns => by
    rw [List.map_cons]
    unfold intsD
    rw [ints_nat ns]
    rfl
theorem len_lst (ds : List D) : bltD .len [.lst ds] = some (.int ds.length) := rfl
theorem s_nminute (m : Option Nat) : f_need_minute.sem [dM m] = .ok .non [] := by
  show semB g_need_minute 1 none b_need_minute [dM m] = _
  unfold semB b_need_minute
  simp [evSs, evS, evs, evr, truR, startE, cellsF, cellF, evq_c, evq_v, evq_bin, evq_cmp, evq_chn, evq_and_, evq_or_, evq_not_, evq_neg, evq_ite, evq_tup, evq_lst, evq_ix, evq_blt, evq_isin, Mp.R.bind, Mp.R.take, Mp.R.toS, SR.seq, takeO, rdO, cellAt, content, truD, runF, outE, lift, cl_need_minute_0, s_con]
theorem s_is_less (a b : Option Nat) : f_is_less.sem [dM a, dM b] = .ok (.bl (ltM a b)) [] := by
  cases a with
  | none => cases b <;> rfl
  | some a =>
    cases b with
    | none => rfl
    | some b =>
      have e : f_is_less.sem [.int (a : Int), .int (b : Int)] = .ok (.bl (decide ((a : Int) < (b : Int)))) [] := by rfl
      show f_is_less.sem [.int (a : Int), .int (b : Int)] = _
      rw [e]
      show _ = FR.ok (.bl (decide (a < b))) []
      by_cases h : a < b
      · rw [decide_eq_true h, decide_eq_true (by omega)]
      · rw [decide_eq_false h, decide_eq_false (by omega)]
theorem max_nat (a b : Nat) : bltD .max2 [.int (a : Int), .int (b : Int)] = some (.int ((max a b : Nat) : Int)) := by
  show some (D.int (if (b : Int) > (a : Int) then (b : Int) else (a : Int))) = _
  congr 2
  split <;> omega
end Mp
set_option maxHeartbeats 4000000
namespace Mp
open PySem L2
variable [TabsW] [GdW]
variable [TabsW] [GdW]
variable [TabsW] [GdW]
def dNs (ns : List Nat) : List D := ns.map fun n : Nat => D.int (n : Int)
end Mp
set_option maxHeartbeats 4000000
namespace Mp
open PySem L2
variable [TabsW] [GdW]
variable [TabsW] [GdW]
variable [TabsW] [GdW]
/-- a slot's content that may be overwritten -/
def frC : Option Cell → Bool
  | some (.io _) => false
  | some (.slf _ _ _) => false
  | _ => true
theorem freeB_eq (env : Env) (i : Nat) : freeB env i = match env[i]? with
    | some x => frC x
    | none => false := by
  unfold freeB
  cases env[i]? with
  | none => rfl
  | some x => cases x with
    | none => rfl
    | some c => cases c <;> rfl
@[simp] theorem frC_none : frC none = true := rfl
@[simp] theorem frC_dat (d) : frC (some (.dat d)) = true := rfl
@[simp] theorem frC_own (d) : frC (some (.own d)) = true := rfl
theorem last_at {α} (ds : List α) (h : ds ≠ []) : atI ds (-1) = ds.getLast? := by
  have hl : 0 < ds.length := List.length_pos_iff.mpr h
  unfold atI ixN
  rw [if_neg (by omega), if_pos (by omega), List.getLast?_eq_getElem?]
  show ds[((-1 : Int) + (ds.length : Int)).toNat]? = _
  congr 1; omega
end Mp
set_option maxHeartbeats 4000000
set_option maxHeartbeats 4000000
set_option maxHeartbeats 4000000
namespace Mp
open PySem L2
variable [TabsW] [GdW]
variable [TabsW] [GdW]
variable [TabsW] [GdW]
/-- the state of the draws -/
def src (a b : Int) : List D := [.int a, .int b]
theorem io_call {G : Ctx} {j i : Nat} {f : Fn} {es : List IR} {env env' : Env} {ds ds' out vs : List D} {d : D} (hj : G.fns[j]? = some f) (hio : f.io = some 0) (hn : es.length + 1 = f.n) (hi : env[i]? = some (some (.io ds)))
    (he : evs G es env = .ok vs env') (hi' : env'[i]? = some (some (.io ds'))) (hs : f.sem (.lst ds' :: vs) = .ok d out) : ev G (.call j (.v i :: es)) env = .ok (.val d) (env'.set i (some (.io out))) := by
  rw [ev_call_io hj hio hn (.inr hi), he]
  have hc : cellAt env' i = some (.io ds') := by unfold cellAt; rw [hi']; rfl
  show (match (cellAt env' i).map content with
      | some d0 => frR env' (some 0) [i] (f.sem (d0 :: vs))
      | none => .bad) = _
  rw [hc]
  show frR env' (some 0) [i] (f.sem (.lst ds' :: vs)) = _
  rw [hs]
  unfold frR
  dsimp only
  rw [hc]
theorem own_call {G : Ctx} {j i : Nat} {f : Fn} {es : List IR} {env env' : Env} {ds ds' out vs : List D} {d : D} (hj : G.fns[j]? = some f) (hio : f.io = some 0) (hn : es.length + 1 = f.n) (hi : env[i]? = some (some (.own ds)))
    (he : evs G es env = .ok vs env') (hi' : env'[i]? = some (some (.own ds'))) (hs : f.sem (.lst ds' :: vs) = .ok d out) : ev G (.call j (.v i :: es)) env = .ok (.val d) (env'.set i (some (.own out))) := by
  rw [ev_call_io hj hio hn (.inl hi), he]
  have hc : cellAt env' i = some (.own ds') := by unfold cellAt; rw [hi']; rfl
  show (match (cellAt env' i).map content with
      | some d0 => frR env' (some 0) [i] (f.sem (d0 :: vs))
      | none => .bad) = _
  rw [hc]
  show frR env' (some 0) [i] (f.sem (.lst ds' :: vs)) = _
  rw [hs]
  unfold frR
  dsimp only
  rw [hc]
theorem s_take (a b : Int) (t : Nat) (h0 : 0 < t) (h1 : t < 1073741824) : ∃ (d : Nat) (a' b' : Int), d < t ∧ f__law_take.sem [.lst (src a b), .int t] = .ok (.int d) (src a' b') := by
  have ht : (0 : Int) < (t : Int) := by omega
  have ht2 : (t : Int) < 1073741824 := by omega
  by_cases ha : 0 < a
  · refine ⟨(a % t).toNat, a / t, b, ?_, ?_⟩
    · have := Int.emod_lt_of_pos a ht
      have := Int.emod_nonneg a (Int.ne_of_gt ht)
      omega
    · have e : (((a % t).toNat : Nat) : Int) = a % t := Int.toNat_of_nonneg (Int.emod_nonneg a (Int.ne_of_gt ht))
      have g0 : atI [D.int a, D.int b] 0 = some (.int a) := rfl
      have gi (i : Int) : bltD .int [.int i] = some (.int i) := rfl
      show semB g__law_take 3 (some 0) b__law_take [.lst (src a b), .int t] = _
      unfold semB b__law_take
      rw [e]
      simp [evSs, evS, evs, evr, truR, startE, cellsF, cellF, evq_c, evq_v, evq_bin, evq_cmp, evq_chn, evq_and_, evq_or_, evq_not_, evq_neg, evq_ite, evq_tup, evq_lst, evq_ix, evq_blt, evq_isin, Mp.R.bind, Mp.R.take, Mp.R.toS, SR.seq, takeO, rdO, cellAt, content, truD, runF, outE, lift, src, ixD, g0, cmpD, ha, gi, binD, modD, fdivD, ht, ht2, h0, h1, bindT, freeB_eq, placeB, List.lookup, R.rd]
  · refine ⟨((((b * 39373 + 7) % 2147483647 * ((b * 39373 + 7) % 2147483647)) % 2147483629 / 32) % t).toNat, a, (b * 39373 + 7) % 2147483647, ?_, ?_⟩
    · have := Int.emod_lt_of_pos (((b * 39373 + 7) % 2147483647 * ((b * 39373 + 7) % 2147483647)) % 2147483629 / 32) ht
      have := Int.emod_nonneg (((b * 39373 + 7) % 2147483647 * ((b * 39373 + 7) % 2147483647)) % 2147483629 / 32) (Int.ne_of_gt ht)
      omega
    · have e : (((((((b * 39373 + 7) % 2147483647 * ((b * 39373 + 7) % 2147483647)) % 2147483629 / 32) % t).toNat) : Nat) : Int) = (((b * 39373 + 7) % 2147483647 * ((b * 39373 + 7) % 2147483647)) % 2147483629 / 32) % t := Int.toNat_of_nonneg (Int.emod_nonneg _ (Int.ne_of_gt ht))
      rw [e]
      have c0 : (0 : Int) ≤ (b * 39373 + 7) % 2147483647 := Int.emod_nonneg _ (by decide)
      have c1 : (b * 39373 + 7) % 2147483647 < 2147483647 := Int.emod_lt_of_pos _ (by decide)
      have m1 : mulD (.int b) (.int 39373) = some (.int (b * 39373)) := by unfold mulD; exact if_pos (.inr (by decide))
      generalize hc : (b * 39373 + 7) % 2147483647 = c at c0 c1 ⊢
      have m2 : mulD (.int c) (.int c) = some (.int (c * c)) := by unfold mulD; exact if_pos (.inl (by omega))
      have g0 : atI [D.int a, D.int b] 0 = some (.int a) := rfl
      have g1 : atI [D.int a, D.int b] 1 = some (.int b) := rfl
      have g2 : atI [D.int a, D.int c] 1 = some (.int c) := rfl
      have gi (i : Int) : bltD .int [.int i] = some (.int i) := rfl
      show semB g__law_take 3 (some 0) b__law_take [.lst (src a b), .int t] = _
      unfold semB b__law_take
      simp [evSs, evS, evs, evr, truR, startE, cellsF, cellF, evq_c, evq_v, evq_bin, evq_cmp, evq_chn, evq_and_, evq_or_, evq_not_, evq_neg, evq_ite, evq_tup, evq_lst, evq_ix, evq_blt, evq_isin, Mp.R.bind, Mp.R.take, Mp.R.toS, SR.seq, takeO, rdO, cellAt, content, truD, runF, outE, lift, src, ixD, g0, g1, g2, cmpD, ha, gi, binD, modD, fdivD, addD, m1, m2, hc, ht, ht2, h0, h1, bindT, freeB_eq, placeB, R.rd]
end Mp
set_option maxHeartbeats 400000
namespace Mp
open PySem L2
variable [TabsW] [GdW]
variable [TabsW] [GdW]
variable [TabsW] [GdW]
theorem s_one (a b : Int) (ds : List D) (h0 : 0 < ds.length) (h1 : ds.length < 1073741824) : ∃ (d : D) (a' b' : Int), d ∈ ds ∧ f__law_one.sem [.lst (src a b), .lst ds] = .ok d (src a' b') := by
  obtain ⟨d, a', b', hd, h⟩ := s_take a b ds.length h0 h1
  refine ⟨ds[d], a', b', List.getElem_mem _, ?_⟩
  have hx : atI ds (d : Int) = some ds[d] := by
    unfold atI
    rw [ix_in' (by omega) (by omega)]
    show ds[(d : Int).toNat]? = _
    rw [Int.toNat_natCast]; exact List.getElem?_eq_getElem hd
  have L : evs g__law_one [.blt .len [.v 1]] [some (.io (src a b)), some (.dat (.lst ds))] = .ok [.int ds.length] [some (.io (src a b)), some (.dat (.lst ds))] := rfl
  have C := io_call (G := g__law_one) (j := 0) (i := 0) (f := f__law_take) (env := [some (.io (src a b)), some (.dat (.lst ds))]) rfl rfl rfl rfl L rfl h
  show semB g__law_one 2 (some 0) b__law_one [.lst (src a b), .lst ds] = _
  unfold semB b__law_one
  generalize hs : src a b = s at C ⊢
  simp [evSs, evS, evs, evr, truR, startE, cellsF, cellF, evq_c, evq_v, evq_bin, evq_cmp, evq_chn, evq_and_, evq_or_, evq_not_, evq_neg, evq_ite, evq_tup, evq_lst, evq_ix, evq_blt, evq_isin, Mp.R.bind, Mp.R.take, Mp.R.toS, SR.seq, takeO, rdO, cellAt, content, truD, runF, outE, lift, C, ixD, hx]
theorem s_rounds (ds : List D) : f__law_rounds.sem [.lst ds] = .ok (.lst (iotaD 0 (max 1 (min ds.length 3)))) [] := by
  have e1 : bltD .min2 [.int (ds.length : Int), .int 3] = some (.int ((min ds.length 3 : Nat) : Int)) := by
    show some (D.int (if (3 : Int) < (ds.length : Int) then 3 else (ds.length : Int))) = _
    congr 2; split <;> omega
  have e2 : bltD .max2 [.int 1, .int ((min ds.length 3 : Nat) : Int)] = some (.int ((max 1 (min ds.length 3) : Nat) : Int)) := max_nat 1 (min ds.length 3)
  have hb : BIG = 100000 := rfl
  show semB g__law_rounds 1 none b__law_rounds [.lst ds] = _
  unfold semB b__law_rounds
  generalize hk : max 1 (min ds.length 3) = k at e2 ⊢
  have hk4 : k ≤ 4 := by omega
  have c1 : -1000000 ≤ (k : Int) := by omega
  have c2 : (k : Int) ≤ 100000 := by omega
  generalize min ds.length 3 = l at e1 e2
  simp [evSs, evS, evs, evr, truR, startE, cellsF, cellF, evq_c, evq_v, evq_bin, evq_cmp, evq_chn, evq_and_, evq_or_, evq_not_, evq_neg, evq_ite, evq_tup, evq_lst, evq_ix, evq_blt, evq_isin, Mp.R.bind, Mp.R.take, Mp.R.toS, SR.seq, takeO, rdO, cellAt, content, truD, runF, outE, lift, len_lst, e1, e2, evq_lrng, R.rd, c1, c2, hb]
end Mp
set_option maxHeartbeats 1000000
namespace Mp
open PySem L2
variable [TabsW] [GdW]
variable [TabsW] [GdW]
variable [TabsW] [GdW]
theorem at_map {α : Type} (f : α → D) (l : List α) (p : Nat) (x : α) (h : l[p]? = some x) : atI (l.map f) (p : Int) = some (f x) := by
  have hp : p < l.length := (List.getElem?_eq_some_iff.mp h).1
  unfold atI
  rw [ix_in' (by omega) (by simp; omega)]
  show (l.map f)[(p : Int).toNat]? = _
  rw [Int.toNat_natCast, List.getElem?_map, h]
  rfl
end Mp
set_option maxHeartbeats 1000000
namespace Mp
open PySem L2
variable [TabsW] [GdW]
variable [TabsW] [GdW]
variable [TabsW] [GdW]
def dT (s : Nat × Nat) : D := .tup [.int s.1, .int s.2]
/-- good spans -/
def PW (ss : List (Nat × Nat)) : Prop := ss.Pairwise fun a b => a.2 < b.1
end Mp
set_option maxHeartbeats 1000000
namespace Mp
open PySem L2
variable [TabsW] [GdW]
variable [TabsW] [GdW]
variable [TabsW] [GdW]
theorem m5t : powD (.int 10) (.int 18) = some (.int (1000000000000000000)) := by
  show (if 0 ≤ (18:Int) ∧ (18:Int) ≤ 1000000 ∧ (10:Int).natAbs < 18446744073709551616 then some (D.int ((10:Int) ^ (18:Int).toNat)) else none) = _
  rw [if_pos (by decide)]
  have : (10 : Int) ^ (18 : Int).toNat = 1000000000000000000 := by decide
  rw [this]
theorem pow_run (env : Env) : ev g__law_pool (.bin .pow (.c (.int 10)) (.c (.int 18))) env = .ok (.val (.int 1000000000000000000)) env := by
  rw [evq_bin, evq_c]
  show (ev g__law_pool (.c (.int 18)) env).bind (fun y e2 => match rdO e2 (.val (.int 10)), rdO e2 y with
    | some p, some q => lift e2 (binD .pow p q)
    | _, _ => .bad) = _
  rw [evq_c]
  show lift env (powD (.int 10) (.int 18)) = _
  rw [m5t]
  rfl
theorem pool_mix (L : List D) (k c g P Q A B C E : Int) (m1 : mulD (.int A) (.int k) = some (.int (A * k))) (m2 : mulD (.int (A * k)) (.int k) = some (.int (A * k * k))) (m3 : mulD (.int B) (.int k) = some (.int (B * k))) (m4 : ∀ x, mulD (.int x) (.int E) = some (.int (x * E)))
    (md : ∀ x, modD (.int x) (.int P) = some (.int (x % P))) (md2 : ∀ x, modD (.int x) (.int Q) = some (.int (x % Q))) :
    evS g__law_pool (.asg (.name 4) (.bin .mod (.blt .int [.bin .mul (.bin .add (.bin .add (.bin .add (.bin .mod (.blt .int [.v 3]) (.c (.int P))) (.bin .mul (.bin .mul (.c (.int A)) (.v 1)) (.v 1))) (.bin .mul (.c (.int B)) (.v 1))) (.c (.int C))) (.c (.int E))]) (.c (.int Q)))) [some (.dat (.lst L)), some (.dat (.int k)), some (.dat (.int c)), some (.dat (.int g)), none] = .nx [some (.dat (.lst L)), some (.dat (.int k)), some (.dat (.int c)), some (.dat (.int g)), some (.dat (.int (((g % P + A * k * k + B * k + C) * E) % Q)))] := by
  have gi (i : Int) : bltD .int [.int i] = some (.int i) := rfl
  have ad (x y : Int) : addD (.int x) (.int y) = some (.int (x + y)) := rfl
  simp [evSs, evS, evs, evr, truR, startE, cellsF, cellF, evq_c, evq_v, evq_bin, evq_cmp, evq_chn, evq_and_, evq_or_, evq_not_, evq_neg, evq_ite, evq_tup, evq_lst, evq_ix, evq_blt, evq_isin, Mp.R.bind, Mp.R.take, Mp.R.toS, SR.seq, takeO, rdO, cellAt, content, truD, runF, outE, lift, gi, binD, ad, m1, m2, m3, m4, md, md2, bindT, freeB_eq]
theorem seq_nx {e : Env} {k : Env → SR} : (SR.nx e).seq k = k e := rfl
theorem s_pool (ns : List Int) (k : Nat) (hk : k < 100) : ∃ a b, f__law_pool.sem [.lst (ns.map .int), .int k] = .ok (.lst (src a b)) [] := by
  obtain ⟨c, hc⟩ : ∃ c : Int, evSs g__law_pool [.asg (.name 2) (.c (.int 0)), .if_ (.cmp .lt (.v 1) (.blt .len [.v 0])) [.asg (.name 2) (.ix (.v 0) (.v 1))] []] [some (.dat (.lst (ns.map .int))), some (.dat (.int k)), none, none, none] = .nx [some (.dat (.lst (ns.map .int))), some (.dat (.int k)), some (.dat (.int c)), none, none] := by
    have hlen : bltD .len [.lst (ns.map .int)] = some (.int ns.length) := by show some (D.int ((ns.map D.int).length : Nat)) = _; simp
    by_cases h : k < ns.length
    · have hx : atI (ns.map D.int) (k : Int) = some (D.int ns[k]) := at_map _ ns k _ (List.getElem?_eq_getElem h)
      have c1 : cmpD .lt (.int (k : Int)) (.int (ns.length : Int)) = some true := by show some (decide _) = _; rw [decide_eq_true (by omega)]
      refine ⟨ns[k], ?_⟩
      generalize ns[k] = z at *
      simp [evSs, evS, evs, evr, truR, startE, cellsF, cellF, evq_c, evq_v, evq_bin, evq_cmp, evq_chn, evq_and_, evq_or_, evq_not_, evq_neg, evq_ite, evq_tup, evq_lst, evq_ix, evq_blt, evq_isin, Mp.R.bind, Mp.R.take, Mp.R.toS, SR.seq, takeO, rdO, cellAt, content, truD, runF, outE, lift, hlen, c1, ixD, hx, bindT, freeB_eq]
    · have c1 : cmpD .lt (.int (k : Int)) (.int (ns.length : Int)) = some false := by show some (decide _) = _; rw [decide_eq_false (by omega)]
      refine ⟨0, ?_⟩
      simp [evSs, evS, evs, evr, truR, startE, cellsF, cellF, evq_c, evq_v, evq_bin, evq_cmp, evq_chn, evq_and_, evq_or_, evq_not_, evq_neg, evq_ite, evq_tup, evq_lst, evq_ix, evq_blt, evq_isin, Mp.R.bind, Mp.R.take, Mp.R.toS, SR.seq, takeO, rdO, cellAt, content, truD, runF, outE, lift, hlen, c1, ixD, bindT, freeB_eq]
  obtain ⟨g, hg⟩ : ∃ g : Int, bltD .max2 [.int c, .int (-1 - c)] = some (.int g) := ⟨_, rfl⟩
  have gi (i : Int) : bltD .int [.int i] = some (.int i) := rfl
  have m1 : mulD (.int 7919) (.int (k : Int)) = some (.int (7919 * k)) := by unfold mulD; exact if_pos (.inl (by decide))
  have m2 : mulD (.int (7919 * (k : Int))) (.int (k : Int)) = some (.int (7919 * k * k)) := by unfold mulD; exact if_pos (.inr (by omega))
  have m3 : mulD (.int 31) (.int (k : Int)) = some (.int (31 * k)) := by unfold mulD; exact if_pos (.inl (by decide))
  have m4 (x : Int) : mulD (.int x) (.int 48271) = some (.int (x * 48271)) := by unfold mulD; exact if_pos (.inr (by decide))
  have m5 : powD (.int 10) (.int 18) = some (.int (1000000000000000000)) := m5t
  obtain ⟨z, hz, m6⟩ : ∃ z : Bool, cmpD .ge (.int g) (.int 1000000000000000000) = some z ∧ mulD (.int g) (.int (if z then 1 else 0)) = some (.int (g * (if z then 1 else 0))) := by
    refine ⟨_, rfl, ?_⟩
    unfold mulD
    exact if_pos (.inr (by split <;> decide))
  have gb (b : Bool) : bltD .int [.bl b] = some (.int (if b then 1 else 0)) := rfl
  have md (x : Int) : modD (.int x) (.int 2147483629) = some (.int (x % 2147483629)) := by unfold modD; exact if_pos (by decide)
  have md2 (x : Int) : modD (.int x) (.int 2147483647) = some (.int (x % 2147483647)) := by unfold modD; exact if_pos (by decide)
  have ad (x y : Int) : addD (.int x) (.int y) = some (.int (x + y)) := rfl
  have sb (x y : Int) : subD (.int x) (.int y) = some (.int (x - y)) := rfl
  have hb : 2 ≤ BIG := by decide
  refine ⟨g * (if z then 1 else 0), ((g % 2147483629 + 7919 * k * k + 31 * k + 17) * 48271) % 2147483647, ?_⟩
  generalize hw : (if z then (1 : Int) else 0) = w at *
  have e0 : b__law_pool = [.asg (.name 2) (.c (.int 0)), .if_ (.cmp .lt (.v 1) (.blt .len [.v 0])) [.asg (.name 2) (.ix (.v 0) (.v 1))] []] ++ [.asg (.name 3) (.blt .max2 [.blt .int [.v 2], .blt .int [.bin .sub (.neg (.c (.int 1))) (.v 2)]]), .asg (.name 4) (.bin .mod (.blt .int [.bin .mul (.bin .add (.bin .add (.bin .add (.bin .mod (.blt .int [.v 3]) (.c (.int 2147483629))) (.bin .mul (.bin .mul (.c (.int 7919)) (.v 1)) (.v 1))) (.bin .mul (.c (.int 31)) (.v 1))) (.c (.int 17))) (.c (.int 48271))]) (.c (.int 2147483647))), .retl (.lst [.bin .mul (.v 3) (.blt .int [.cmp .ge (.v 3) (.bin .pow (.c (.int 10)) (.c (.int 18)))]), .v 4])] := rfl
  have app : ∀ (G : Ctx) (as bs : List ST) (env : Env), evSs G (as ++ bs) env = (evSs G as env).seq fun e => evSs G bs e := by
    intro G as
    induction as with
    | nil => intro bs env; rw [List.nil_append]; conv => rhs; rw [evSs]
             rfl
    | cons s as ih =>
      intro bs env
      rw [List.cons_append, evSs, evSs]
      cases evS G s env with
      | nx e => exact ih bs e
      | _ => rfl
  have st : startE none 5 [D.lst (ns.map .int), D.int k] = [some (.dat (.lst (ns.map .int))), some (.dat (.int k)), none, none, none] := rfl
  obtain ⟨L, hL⟩ : ∃ L, ns.map D.int = L := ⟨_, rfl⟩
  rw [hL] at st hc ⊢
  have S1 : evS g__law_pool (.asg (.name 3) (.blt .max2 [.blt .int [.v 2], .blt .int [.bin .sub (.neg (.c (.int 1))) (.v 2)]])) [some (.dat (.lst L)), some (.dat (.int k)), some (.dat (.int c)), none, none] = .nx [some (.dat (.lst L)), some (.dat (.int k)), some (.dat (.int c)), some (.dat (.int g)), none] := by
    simp [evSs, evS, evs, evr, truR, startE, cellsF, cellF, evq_c, evq_v, evq_bin, evq_cmp, evq_chn, evq_and_, evq_or_, evq_not_, evq_neg, evq_ite, evq_tup, evq_lst, evq_ix, evq_blt, evq_isin, Mp.R.bind, Mp.R.take, Mp.R.toS, SR.seq, takeO, rdO, cellAt, content, truD, runF, outE, lift, gi, hg, binD, sb, bindT, freeB_eq]
  have S2 := pool_mix L k c g 2147483629 2147483647 7919 31 17 48271 m1 m2 m3 m4 md md2
  have S3 (m : Int) : evS g__law_pool (.retl (.lst [.bin .mul (.v 3) (.blt .int [.cmp .ge (.v 3) (.bin .pow (.c (.int 10)) (.c (.int 18)))]), .v 4])) [some (.dat (.lst L)), some (.dat (.int k)), some (.dat (.int c)), some (.dat (.int g)), some (.dat (.int m))] = .rl (src (g * w) m) [some (.dat (.lst L)), some (.dat (.int k)), some (.dat (.int c)), some (.dat (.int g)), some (.dat (.int m))] := by
    simp [evSs, evS, evs, evr, truR, startE, cellsF, cellF, evq_c, evq_v, evq_bin, evq_cmp, evq_chn, evq_and_, evq_or_, evq_not_, evq_neg, evq_ite, evq_tup, evq_lst, evq_ix, evq_blt, evq_isin, Mp.R.bind, Mp.R.take, Mp.R.toS, SR.seq, takeO, rdO, cellAt, content, truD, runF, outE, lift, ↓pow_run, evL, binD, m6, hz, gb, hw, hb, src]
  have T0 : evSs g__law_pool b__law_pool (startE none 5 [D.lst L, D.int k]) = .rl (src (g * w) (((g % 2147483629 + 7919 * k * k + 31 * k + 17) * 48271) % 2147483647)) [some (.dat (.lst L)), some (.dat (.int k)), some (.dat (.int c)), some (.dat (.int g)), some (.dat (.int (((g % 2147483629 + 7919 * k * k + 31 * k + 17) * 48271) % 2147483647)))] := by
    rw [e0, app, st, hc, seq_nx, evSs, S1, seq_nx, evSs, S2, seq_nx, evSs, S3]
    unfold SR.seq
    dsimp only
  have U : f__law_pool.sem [.lst L, .int k] = semBF g__law_pool 5 b__law_pool [.lst L, .int k] := rfl
  rw [U, semBF, T0]
  exact if_pos hb
end Mp
set_option maxHeartbeats 4000000
namespace Mp
open PySem L2
variable [TabsW] [GdW]
variable [TabsW] [GdW]
variable [TabsW] [GdW]
theorem s_oneN (a b : Int) (ns : List Nat) (h0 : 0 < ns.length) (h1 : ns.length < 1073741824) : ∃ (n : Nat) (a' b' : Int), n ∈ ns ∧ f__law_one.sem [.lst (src a b), .lst (ns.map fun n : Nat => D.int n)] = .ok (.int n) (src a' b') := by
  obtain ⟨d, a', b', hd, h⟩ := s_one a b (ns.map fun n : Nat => D.int n) (by simpa using h0) (by simpa using h1)
  obtain ⟨n, hn, rfl⟩ := List.mem_map.mp hd
  exact ⟨n, a', b', hn, h⟩
end Mp
set_option maxHeartbeats 4000000
namespace Mp
open PySem L2
variable [TabsW] [GdW]
variable [TabsW] [GdW]
variable [TabsW] [GdW]
theorem data_dM {n : Nat} (m : Option Nat) : dataD n (dM m) = true := by
  cases m with
  | none => exact dataD_non
  | some a => exact dataD_int
theorem eq_dM (a b : Option Nat) : eqD (dM a) (dM b) = (a == b) := by
  cases a with
  | none => cases b with
    | none => show eqD .non .non = _; rw [eqD]; rfl
    | some b => show eqD .non (.int b) = _; rfl
  | some a => cases b with
    | none => show eqD (.int a) .non = _; rfl
    | some b =>
      show eqD (.int a) (.int b) = _
      rw [eqD]
      by_cases h : a = b
      · subst h; simp
      · have h' : ¬ ((a : Int) = (b : Int)) := by omega
        rw [beq_eq_false_iff_ne.mpr h']
        symm
        exact beq_eq_false_iff_ne.mpr (by simpa using h)
theorem cmp_dM (a b : Option Nat) : cmpD .eq (dM a) (dM b) = some (a == b) := by
  show (if dataD 20 (dM a) && dataD 20 (dM b) then some (eqD (dM a) (dM b)) else none) = _
  rw [data_dM, data_dM, eq_dM]; rfl
theorem cmp_ndM (a b : Option Nat) : cmpD .ne (dM a) (dM b) = some (!(a == b)) := by
  show (if dataD 20 (dM a) && dataD 20 (dM b) then some (!eqD (dM a) (dM b)) else none) = _
  rw [data_dM, data_dM, eq_dM]; rfl
theorem is_dM (a : Option Nat) : cmpD .is_ (dM a) .non = some (a == none) := by cases a <;> rfl
theorem eq_nat (a b : Nat) : eqD (.int (a : Int)) (.int (b : Int)) = (a == b) := by
  have := eq_dM (some a) (some b)
  have h : (some a == some b) = (a == b) := by simp
  rw [h] at this; exact this
/-- what stands where a list is asked for -/
structure Sq (C : D) (ds : List D) : Prop where
  sq : seqD C = some ds
  li : f_is_listed.sem [C] = .ok (.bl true) []
  ln : bltD .len [C] = some (.int ds.length)
  ix : ∀ i, ixD C (.int i) = atI ds i
  inn : ∀ p : Int, dataDs 19 ds = true → cmpD .in_ (.int p) C = some (ds.any fun y => eqD y (.int p))
theorem Sq.l (ds : List D) : Sq (.lst ds) ds := ⟨rfl, rfl, rfl, fun _ => rfl, fun p h => by
  show (if dataD 19 (.int p) && dataDs 19 ds then some (ds.any fun y => eqD y (.int p)) else none) = _
  rw [dataD_int, h]; rfl⟩
theorem Sq.t (ds : List D) : Sq (.tup ds) ds := ⟨rfl, rfl, rfl, fun _ => rfl, fun p h => by
  show (if dataD 19 (.int p) && dataDs 19 ds then some (ds.any fun y => eqD y (.int p)) else none) = _
  rw [dataD_int, h]; rfl⟩
theorem take_v {G : Ctx} {i : Nat} {C : D} {env : Env} (hv : env[i]? = some (some (.dat C))) : (ev G (.v i) env).take = .ok C env := by
  rw [evq_v]; unfold cellAt; rw [hv]; rfl
theorem evi_seq {G : Ctx} {i : Nat} {C : D} {ds : List D} {env : Env} (h : seqD C = some ds) (hv : env[i]? = some (some (.dat C))) : evi G (.seq (.v i)) env = .ok ds env := by
  rw [evi, take_v hv]
  cases C with
  | lst _ => cases h; rfl
  | tup _ => cases h; rfl
  | _ => cases h
theorem evi_enum {G : Ctx} {i : Nat} {C : D} {ds : List D} {env : Env} (h : seqD C = some ds) (hv : env[i]? = some (some (.dat C))) : evi G (.enum (.v i)) env = .ok (enumD 0 ds) env := by
  rw [evi, take_v hv]
  cases C with
  | lst _ => cases h; rfl
  | tup _ => cases h; rfl
  | _ => cases h
end Mp
set_option maxHeartbeats 4000000
namespace Mp
open PySem L2
variable [TabsW] [GdW]
variable [TabsW] [GdW]
variable [TabsW] [GdW]
theorem insI_nat (x : Nat) : ∀ ys : List Nat, insI (x : Int) (ys.map fun n : Nat => (n : Int)) = (insN x ys).map fun n : Nat => (n : Int)
  | [] => rfl
  | y :: ys => by
    rw [List.map_cons, insI, insN]
    by_cases h1 : x < y
    · rw [if_pos h1, if_pos (by omega)]; rfl
    · rw [if_neg h1, if_neg (by omega)]
      by_cases h2 : x = y
      · rw [if_pos h2, if_pos (by omega)]; rfl
      · rw [if_neg h2, if_neg (by omega), insI_nat x ys]; rfl
theorem ssetI_nat : ∀ ns : List Nat, ssetI (ns.map fun n : Nat => (n : Int)) = (setN ns).map fun n : Nat => (n : Int)
  | [] => rfl
  | n :: ns => by
    show insI (n : Int) (ssetI (ns.map fun n : Nat => (n : Int))) = _
    rw [ssetI_nat ns, insI_nat]; rfl
theorem sset_nat (ns : List Nat) (h : ns.length < 64) : bltD .sset [.lst (ns.map fun n : Nat => D.int (n : Int))] = some (.lst (dNs (setN ns))) := by
  show ((intsD (ns.map fun n : Nat => D.int (n : Int))).bind fun ns => if ns.length < 64 then some (D.lst ((ssetI ns).map .int)) else none) = _
  rw [ints_nat]
  show (if (ns.map fun n : Nat => (n : Int)).length < 64 then some (D.lst ((ssetI (ns.map fun n : Nat => (n : Int))).map .int)) else none) = _
  rw [if_pos (by rw [List.length_map]; exact h), ssetI_nat, List.map_map]
  rfl
end Mp
set_option maxHeartbeats 4000000
set_option maxHeartbeats 4000000
namespace Mp
open PySem L2
variable [TabsW] [GdW]
variable [TabsW] [GdW]
variable [TabsW] [GdW]
theorem s_row_gives (r : Rw) (m : Nat) (ha : r.v = none → r.g = false) (hm : r.g = true → r.s ≤ m) : f_row_gives.sem [dRw r, .int m] = .ok (dM (giv r m)) [] := by
  obtain ⟨s, v, g⟩ := r
  show semB g_row_gives 5 none b_row_gives [dRw ⟨s, v, g⟩, .int m] = _
  unfold semB b_row_gives dRw
  cases g with
  | false =>
    have e : giv ⟨s, v, false⟩ m = v := by cases v <;> rfl
    rw [e]
    generalize dM v = x
    simp [evSs, evS, evs, evr, truR, startE, cellsF, cellF, evq_c, evq_v, evq_bin, evq_cmp, evq_chn, evq_and_, evq_or_, evq_not_, evq_neg, evq_ite, evq_tup, evq_lst, evq_ix, evq_blt, evq_isin, Mp.R.bind, Mp.R.take, Mp.R.toS, SR.seq, takeO, rdO, cellAt, content, truD, runF, outE, lift, bindT, freeB_eq]
  | true =>
    cases v with
    | none => exact absurd (ha rfl) (fun z => Bool.noConfusion z)
    | some v =>
      have h : s ≤ m := hm rfl
      have e : dM (giv ⟨s, some v, true⟩ m) = .int ((v : Int) + m - s) := by
        show D.int ((v + m - s : Nat) : Int) = _
        congr 1; omega
      rw [e]
      simp [evSs, evS, evs, evr, truR, startE, cellsF, cellF, evq_c, evq_v, evq_bin, evq_cmp, evq_chn, evq_and_, evq_or_, evq_not_, evq_neg, evq_ite, evq_tup, evq_lst, evq_ix, evq_blt, evq_isin, Mp.R.bind, Mp.R.take, Mp.R.toS, SR.seq, takeO, rdO, cellAt, content, truD, runF, outE, lift, bindT, freeB_eq, binD, addD, subD, dM]
def bPA : List ST := [.asg (.name 4) (.bin .fdiv (.bin .add (.v 2) (.v 3)) (.c (.int 2))), .if_ (.cmp .le (.ix (.ix (.v 0) (.v 4)) (.c (.int 0))) (.v 1)) [.asg (.name 2) (.v 4)] [.asg (.name 3) (.v 4)]]
def envPA (C : D) (m lo hi : Nat) (x : Option Cell) : Env := [some (.dat C), some (.dat (.int m)), some (.dat (.int lo)), some (.dat (.int hi)), x]
def tPA : IR := .cmp .gt (.bin .sub (.v 3) (.v 2)) (.c (.int 1))
theorem row_at {C : D} {R : List Rw} (S : Sq C (R.map dRw)) {p : Nat} {r : Rw} (h : R[p]? = some r) : ixD C (.int (p : Int)) = some (dRw r) := (S.ix p).trans (at_map dRw R p r h)
theorem row_s (r : Rw) : ixD (dRw r) (.int 0) = some (.int r.s) := rfl
theorem row_v (r : Rw) : ixD (dRw r) (.int 1) = some (dM r.v) := rfl
theorem row_g (r : Rw) : ixD (dRw r) (.int 2) = some (.bl r.g) := rfl
theorem pa_turn {C : D} {R : List Rw} {m lo hi : Nat} {r : Rw} {x : Option Cell} (S : Sq C (R.map dRw)) (hr : R[(lo + hi) / 2]? = some r) (hx : frC x = true) :
    evSs g_place_at bPA (envPA C m lo hi x) = .nx (if r.s ≤ m then envPA C m ((lo + hi) / 2) hi (some (.dat (.int ((lo + hi) / 2 : Nat)))) else envPA C m lo ((lo + hi) / 2) (some (.dat (.int ((lo + hi) / 2 : Nat))))) := by
  have q1 : binD .fdiv (.int ((lo : Int) + (hi : Int))) (.int 2) = some (.int (((lo + hi) / 2 : Nat) : Int)) := by
    have e : ((lo : Int) + (hi : Int)) / 2 = (((lo + hi) / 2 : Nat) : Int) := by omega
    rw [← e]; rfl
  have q2 := row_at S hr
  have q3 := row_s r
  have c : cmpD .le (.int (r.s : Int)) (.int (m : Int)) = some (decide (r.s ≤ m)) := by
    show some (decide ((r.s : Int) ≤ (m : Int))) = _
    congr 1; simp
  have a : binD .add (.int (lo : Int)) (.int (hi : Int)) = some (.int ((lo : Int) + (hi : Int))) := rfl
  unfold bPA envPA
  generalize ((lo + hi) / 2 : Nat) = mid at *
  generalize dRw r = d at *
  by_cases h : r.s ≤ m
  · rw [if_pos h]
    rw [decide_eq_true h] at c
    simp [evSs, evS, evs, evr, truR, startE, cellsF, cellF, evq_c, evq_v, evq_bin, evq_cmp, evq_chn, evq_and_, evq_or_, evq_not_, evq_neg, evq_ite, evq_tup, evq_lst, evq_ix, evq_blt, evq_isin, Mp.R.bind, Mp.R.take, Mp.R.toS, SR.seq, takeO, rdO, cellAt, content, truD, runF, outE, lift, a, q1, q2, q3, c, bindT, freeB_eq, hx]
  · rw [if_neg h]
    rw [decide_eq_false h] at c
    simp [evSs, evS, evs, evr, truR, startE, cellsF, cellF, evq_c, evq_v, evq_bin, evq_cmp, evq_chn, evq_and_, evq_or_, evq_not_, evq_neg, evq_ite, evq_tup, evq_lst, evq_ix, evq_blt, evq_isin, Mp.R.bind, Mp.R.take, Mp.R.toS, SR.seq, takeO, rdO, cellAt, content, truD, runF, outE, lift, a, q1, q2, q3, c, bindT, freeB_eq, hx]
theorem pa_test (C : D) (m lo hi : Nat) (x : Option Cell) : truR (ev g_place_at tPA (envPA C m lo hi x)) = .ok (decide (lo + 1 < hi)) (envPA C m lo hi x) := by
  have c : cmpD .gt (.int ((hi : Int) - (lo : Int))) (.int 1) = some (decide (lo + 1 < hi)) := by
    show some (decide ((1 : Int) < (hi : Int) - (lo : Int))) = _
    congr 1
    by_cases h : lo + 1 < hi
    · rw [decide_eq_true h, decide_eq_true (by omega)]
    · rw [decide_eq_false h, decide_eq_false (by omega)]
  unfold tPA envPA
  simp [evSs, evS, evs, evr, truR, startE, cellsF, cellF, evq_c, evq_v, evq_bin, evq_cmp, evq_chn, evq_and_, evq_or_, evq_not_, evq_neg, evq_ite, evq_tup, evq_lst, evq_ix, evq_blt, evq_isin, Mp.R.bind, Mp.R.take, Mp.R.toS, SR.seq, takeO, rdO, cellAt, content, truD, runF, outE, lift, c, binD, subD]
theorem pa_loop {C : D} {R : List Rw} {m : Nat} (S : Sq C (R.map dRw)) (st : StR R) : ∀ (k fuel lo hi : Nat) (x : Option Cell), hi ≤ lo + k → k < fuel → lo < R.countP (fun q => decide (q.s ≤ m)) → R.countP (fun q => decide (q.s ≤ m)) ≤ hi → hi ≤ R.length → frC x = true →
    ∃ y hi', whlL (fun e => truR (ev g_place_at tPA e)) (fun e => evSs g_place_at bPA e) fuel (envPA C m lo hi x) = .nx (envPA C m (placeM R m) hi' y)
  | k, 0, lo, hi, x, _, hf, _, _, _, _ => absurd hf (Nat.not_lt_zero _)
  | k, fuel + 1, lo, hi, x, hk, hf, h1, h2, h3, hx => by
    by_cases hl : lo + 1 < hi
    · cases k with
      | zero => omega
      | succ k =>
        obtain ⟨r, hr⟩ : ∃ r, R[(lo + hi) / 2]? = some r := ⟨R[(lo + hi) / 2]'(by omega), List.getElem?_eq_getElem _⟩
        have t := pa_turn (m := m) S hr hx
        have pr := place_row st m _ r hr
        rw [whlL, pa_test, decide_eq_true hl]
        show ∃ y hi', (match evSs g_place_at bPA (envPA C m lo hi x) with
          | .nx e2 => whlL (fun e => truR (ev g_place_at tPA e)) (fun e => evSs g_place_at bPA e) fuel e2
          | .ct e2 => whlL (fun e => truR (ev g_place_at tPA e)) (fun e => evSs g_place_at bPA e) fuel e2
          | .bk e2 => .nx e2
          | .rt d e2 => .rt d e2
          | .rl d e2 => .rl d e2
          | .exc C f d e2 => .exc C f d e2
          | .bad => .bad) = _
        rw [t]
        by_cases hs : r.s ≤ m
        · rw [if_pos hs]
          have := pr.mp hs
          exact pa_loop S st k fuel ((lo + hi) / 2) hi _ (by omega) (by omega) this h2 h3 rfl
        · rw [if_neg hs]
          have : ¬ (lo + hi) / 2 < R.countP (fun q => decide (q.s ≤ m)) := fun z => hs (pr.mpr z)
          exact pa_loop S st k fuel lo ((lo + hi) / 2) _ (by omega) (by omega) h1 (by omega) (by omega) rfl
    · refine ⟨x, hi, ?_⟩
      rw [whlL, pa_test, decide_eq_false hl]
      have : placeM R m = lo := by unfold placeM; omega
      rw [this]; rfl
theorem s_place_at {C : D} {R : List Rw} {f : Nat → Option Nat} (S : Sq C (R.map dRw)) (h : RepF R f) (hl : R.length ≤ 10000) (m : Nat) : f_place_at.sem [C, .int m] = .ok (.int (placeM R m)) [] := by
  have hB : BIG = 100000 := rfl
  have pos := place_pos h m
  have le := List.countP_le_length (p := fun q : Rw => decide (q.s ≤ m)) (l := R)
  obtain ⟨y, hi', k⟩ := pa_loop (m := m) S h.st R.length BIG 0 R.length none (by omega) (by omega) (by omega) le (Nat.le_refl _) rfl
  have ln := S.ln
  rw [List.length_map] at ln
  have T : evS g_place_at (.whl tPA bPA) (envPA C m 0 R.length none) = .nx (envPA C m (placeM R m) hi' y) := by rw [evS]; exact k
  have e0 : b_place_at = [.asg (.name 2) (.c (.int 0)), .asg (.name 3) (.blt .len [.v 0]), .whl tPA bPA, .ret (.v 2)] := rfl
  show semB g_place_at 5 none b_place_at [C, .int m] = _
  unfold semB
  rw [e0]
  unfold envPA at T
  generalize ST.whl tPA bPA = wh at *
  generalize (R.length : Int) = n at *
  generalize ((placeM R m : Nat) : Int) = pm at *
  have T : evS g_place_at wh [some (.dat C), some (.dat (.int m)), some (.dat (.int 0)), some (.dat (.int n)), none] = .nx [some (.dat C), some (.dat (.int m)), some (.dat (.int pm)), some (.dat (.int hi')), y] := T
  simp [evSs, evS, evs, evr, truR, startE, cellsF, cellF, evq_c, evq_v, evq_bin, evq_cmp, evq_chn, evq_and_, evq_or_, evq_not_, evq_neg, evq_ite, evq_tup, evq_lst, evq_ix, evq_blt, evq_isin, Mp.R.bind, Mp.R.take, Mp.R.toS, SR.seq, takeO, rdO, cellAt, content, truD, runF, outE, lift, ln, T, bindT, freeB_eq]
theorem s_value_at {C : D} {R : List Rw} {f : Nat → Option Nat} (S : Sq C (R.map dRw)) (h : RepF R f) (hl : R.length ≤ 10000) (m : Option Nat) : f_value_at.sem [C, dM m] = .ok (dM (m.bind f)) [] := by
  show semB g_value_at 2 none b_value_at [C, dM m] = _
  unfold semB b_value_at
  cases m with
  | none => simp [evSs, evS, evs, evr, truR, startE, cellsF, cellF, evq_c, evq_v, evq_bin, evq_cmp, evq_chn, evq_and_, evq_or_, evq_not_, evq_neg, evq_ite, evq_tup, evq_lst, evq_ix, evq_blt, evq_isin, Mp.R.bind, Mp.R.take, Mp.R.toS, SR.seq, takeO, rdO, cellAt, content, truD, runF, outE, lift, cmpD, dM, isNon]
  | some m =>
    have lt := place_lt h m
    obtain ⟨r, hr⟩ : ∃ r, R[placeM R m]? = some r := ⟨R[placeM R m], List.getElem?_eq_getElem _⟩
    obtain ⟨v1, v2⟩ := val_place h m r hr
    have q1 := s_place_at S h hl m
    have q2 := row_at S hr
    have q3 := s_row_gives r m (h.al r (List.mem_of_getElem? hr)) (fun _ => v2)
    show _ = FR.ok (dM (f m)) []
    rw [v1]
    have c : cmpD .is_ (.int (m : Int)) .non = some false := rfl
    generalize dRw r = d at *
    generalize dM (giv r m) = z at *
    generalize ((placeM R m : Nat) : Int) = pm at *
    simp [evSs, evS, evs, evr, truR, startE, cellsF, cellF, evq_c, evq_v, evq_bin, evq_cmp, evq_chn, evq_and_, evq_or_, evq_not_, evq_neg, evq_ite, evq_tup, evq_lst, evq_ix, evq_blt, evq_isin, Mp.R.bind, Mp.R.take, Mp.R.toS, SR.seq, takeO, rdO, cellAt, content, truD, runF, outE, lift, cl_value_at_0, cl_value_at_1, q1, q2, q3, c, dM]
end Mp
set_option maxHeartbeats 4000000
namespace Mp
open PySem L2
variable [TabsW] [GdW]
variable [TabsW] [GdW]
variable [TabsW] [GdW]
theorem gt_zero (i : Nat) : cmpD .gt (.int ((i : Nat) : Int)) (.int 0) = some (decide (0 < i)) := by
  show some (decide ((0 : Int) < (i : Int))) = _
  congr 1; simp
theorem eq_zero (i : Nat) : cmpD .eq (.int ((i : Nat) : Int)) (.int 0) = some (i == 0) := by
  have := cmp_dM (some i) (some 0)
  have h : (some i == some 0) = (i == 0) := by simp
  rw [h] at this; exact this
theorem ne_zero (i : Nat) : cmpD .ne (.int ((i : Nat) : Int)) (.int 0) = some (!(i == 0)) := by
  have := cmp_ndM (some i) (some 0)
  have h : (some i == some 0) = (i == 0) := by simp
  rw [h] at this; exact this
theorem le_nat (a b : Nat) : cmpD .le (.int (a : Int)) (.int (b : Int)) = some (decide (a ≤ b)) := by
  show some (decide ((a : Int) ≤ (b : Int))) = _
  congr 1; simp
theorem lt_nat (a b : Nat) : cmpD .lt (.int (a : Int)) (.int (b : Int)) = some (decide (a < b)) := by
  show some (decide ((a : Int) < (b : Int))) = _
  congr 1; simp
theorem ge_nat (a b : Nat) : cmpD .ge (.int (a : Int)) (.int (b : Int)) = some (decide (b ≤ a)) := by
  show some (decide ((b : Int) ≤ (a : Int))) = _
  congr 1; simp
theorem add_nat (a b : Nat) : binD .add (.int (a : Int)) (.int (b : Int)) = some (.int ((a + b : Nat) : Int)) := rfl
theorem add_1 (a : Nat) : binD .add (.int (a : Int)) (.int 1) = some (.int ((a + 1 : Nat) : Int)) := rfl
theorem sub_1 {a : Nat} (h : 1 ≤ a) : binD .sub (.int (a : Int)) (.int 1) = some (.int ((a - 1 : Nat) : Int)) := by
  show some (D.int ((a : Int) - 1)) = _
  congr 2; omega
theorem sub_nat {a b : Nat} (h : b ≤ a) : binD .sub (.int (a : Int)) (.int (b : Int)) = some (.int ((a - b : Nat) : Int)) := by
  show some (D.int ((a : Int) - (b : Int))) = _
  congr 2; omega
def nextS (R : List Rw) (p : Nat) : Option Nat := (R[p + 1]?).map (·.s)
theorem s_end_of {C : D} {R : List Rw} (S : Sq C (R.map dRw)) (p : Nat) : f_end_of.sem [C, .int p] = .ok (dM (nextS R p)) [] := by
  have ln := S.ln
  rw [List.length_map] at ln
  have q1 := add_1 p
  have q2 := lt_nat (p + 1) R.length
  show semB g_end_of 2 none b_end_of [C, .int p] = _
  unfold semB b_end_of
  by_cases h : p + 1 < R.length
  · have hr : R[p + 1]? = some R[p + 1] := List.getElem?_eq_getElem h
    have q3 := row_at S hr
    have q4 := row_s R[p + 1]
    have e : dM (nextS R p) = .int (R[p + 1].s : Int) := by unfold nextS; rw [hr]; rfl
    rw [e]
    rw [decide_eq_true h] at q2
    generalize dRw R[p + 1] = d at *
    generalize ((p + 1 : Nat) : Int) = p1 at *
    generalize (R.length : Int) = n at *
    simp [evSs, evS, evs, evr, truR, startE, cellsF, cellF, evq_c, evq_v, evq_bin, evq_cmp, evq_chn, evq_and_, evq_or_, evq_not_, evq_neg, evq_ite, evq_tup, evq_lst, evq_ix, evq_blt, evq_isin, Mp.R.bind, Mp.R.take, Mp.R.toS, SR.seq, takeO, rdO, cellAt, content, truD, runF, outE, lift, ln, q1, q2, q3, q4]
  · have e : dM (nextS R p) = .non := by unfold nextS; rw [List.getElem?_eq_none (by omega)]; rfl
    rw [e]
    rw [decide_eq_false h] at q2
    generalize ((p + 1 : Nat) : Int) = p1 at *
    generalize (R.length : Int) = n at *
    simp [evSs, evS, evs, evr, truR, startE, cellsF, cellF, evq_c, evq_v, evq_bin, evq_cmp, evq_chn, evq_and_, evq_or_, evq_not_, evq_neg, evq_ite, evq_tup, evq_lst, evq_ix, evq_blt, evq_isin, Mp.R.bind, Mp.R.take, Mp.R.toS, SR.seq, takeO, rdO, cellAt, content, truD, runF, outE, lift, ln, q1, q2]
theorem s_is_row (r : Rw) : f_is_row.sem [dRw r] = .ok (.bl true) [] := by
  obtain ⟨s, v, g⟩ := r
  cases v <;> cases g <;> rfl
theorem s_right_alone (r : Rw) : f_is_right_alone.sem [dRw r] = .ok (.bl (rightAlone r)) [] := by
  obtain ⟨s, v, g⟩ := r
  cases v with
  | none => cases g <;> rfl
  | some v =>
    have c := ge_nat v s
    show semB g_is_right_alone 4 none b_is_right_alone [dRw ⟨s, some v, g⟩] = _
    have e : rightAlone ⟨s, some v, g⟩ = decide (s ≤ v) := rfl
    have ci : cmpD .is_ (.int (v : Int)) .non = some false := rfl
    rw [e]
    generalize decide (s ≤ v) = t at *
    unfold semB b_is_right_alone dRw
    simp [evSs, evS, evs, evr, truR, startE, cellsF, cellF, evq_c, evq_v, evq_bin, evq_cmp, evq_chn, evq_and_, evq_or_, evq_not_, evq_neg, evq_ite, evq_tup, evq_lst, evq_ix, evq_blt, evq_isin, Mp.R.bind, Mp.R.take, Mp.R.toS, SR.seq, takeO, rdO, cellAt, content, truD, runF, outE, lift, c, ci, bindT, freeB_eq, dM]
theorem s_right_behind (r a : Rw) (ha : a.v = none → a.g = false) (h : rightBehind r a = true) : f_is_right_behind.sem [dRw r, dRw a] = .ok (.bl true) [] := by
  unfold rightBehind at h
  simp only [Bool.and_eq_true, decide_eq_true_eq, Bool.not_eq_true'] at h
  obtain ⟨⟨h1, h2⟩, h3⟩ := h
  have q1 := row_s r
  have q2 := row_s a
  have q3 := row_v r
  have c := le_nat r.s a.s
  rw [decide_eq_false (by omega)] at c
  have b1 := sub_1 (a := r.s) (by omega)
  have g1 := s_row_gives a (r.s - 1) ha (fun _ => by omega)
  have l1 := s_is_less (giv a (r.s - 1)) (some (r.s - 1))
  have l2 := s_is_less r.v (giv a (r.s - 1))
  rw [h2] at l1
  rw [h3] at l2
  have l1 : f_is_less.sem [dM (giv a (r.s - 1)), .int ((r.s - 1 : Nat) : Int)] = .ok (.bl false) [] := l1
  show semB g_is_right_behind 4 none b_is_right_behind [dRw r, dRw a] = _
  unfold semB b_is_right_behind
  generalize dRw r = d at *
  generalize dRw a = e at *
  generalize dM (giv a (r.s - 1)) = z at *
  generalize dM r.v = y at *
  generalize ((r.s - 1 : Nat) : Int) = s1 at *
  generalize (r.s : Int) = s at *
  simp [evSs, evS, evs, evr, truR, startE, cellsF, cellF, evq_c, evq_v, evq_bin, evq_cmp, evq_chn, evq_and_, evq_or_, evq_not_, evq_neg, evq_ite, evq_tup, evq_lst, evq_ix, evq_blt, evq_isin, Mp.R.bind, Mp.R.take, Mp.R.toS, SR.seq, takeO, rdO, cellAt, content, truD, runF, outE, lift, q1, q2, q3, c, b1, cl_is_right_behind_0, cl_is_right_behind_1, g1, l1, l2, bindT, freeB_eq]
def bFW : List ST := [.if_ (.or_ (.not_ (.call 0 [.v 2])) (.not_ (.call 1 [.v 2]))) [.ret (.v 1)] [], .if_ (.and_ (.cmp .eq (.v 1) (.c (.int 0))) (.cmp .ne (.ix (.v 2) (.c (.int 0))) (.c (.int 0)))) [.ret (.v 1)] [], .if_ (.and_ (.cmp .gt (.v 1) (.c (.int 0))) (.not_ (.call 2 [.v 2, .ix (.v 0) (.bin .sub (.v 1) (.c (.int 1)))]))) [.ret (.v 1)] []]
theorem fw_turn {C : D} {R : List Rw} (S : Sq C (R.map dRw)) (h : Checked R) (p : Nat) (r : Rw) (hr : R[p]? = some r) : evSs g_first_wrong bFW [some (.dat C), some (.dat (.int p)), some (.dat (dRw r)), none, none, none] = .nx [some (.dat C), some (.dat (.int p)), some (.dat (dRw r)), none, none, none] := by
  have mem := List.mem_of_getElem? hr
  have q1 := s_is_row r
  have q2 := s_right_alone r
  rw [h.al r mem] at q2
  have q3 := row_s r
  have c1 := eq_zero p
  have c2 := gt_zero p
  unfold bFW
  cases p with
  | zero =>
    have z : r.s = 0 := by
      have := h.z
      cases R with
      | nil => cases hr
      | cons a R => cases hr; exact Option.some.inj this
    have c3 := ne_zero r.s
    rw [z] at q3 c3
    generalize dRw r = d at *
    have c1 : cmpD .eq (.int ((0 : Nat) : Int)) (.int 0) = some true := c1
    have c2 : cmpD .gt (.int ((0 : Nat) : Int)) (.int 0) = some false := c2
    have c3 : cmpD .ne (.int ((0 : Nat) : Int)) (.int 0) = some false := c3
    generalize ((0 : Nat) : Int) = zz at *
    simp [evSs, evS, evs, evr, truR, startE, cellsF, cellF, evq_c, evq_v, evq_bin, evq_cmp, evq_chn, evq_and_, evq_or_, evq_not_, evq_neg, evq_ite, evq_tup, evq_lst, evq_ix, evq_blt, evq_isin, Mp.R.bind, Mp.R.take, Mp.R.toS, SR.seq, takeO, rdO, cellAt, content, truD, runF, outE, lift, cl_first_wrong_0, cl_first_wrong_1, q1, q2, q3, c1, c2, c3]
  | succ p =>
    have hp : p + 1 < R.length := (List.getElem?_eq_some_iff.mp hr).1
    have ha : R[p]? = some R[p] := List.getElem?_eq_getElem (by omega)
    have q4 := row_at S ha
    have al : R[p].v = none → R[p].g = false := fun hv => by
      have := h.al R[p] (List.getElem_mem _)
      unfold rightAlone at this
      rw [hv] at this
      simpa using this
    have q5 := s_right_behind r R[p] al (h.be p R[p] r ha hr)
    have b1 := sub_1 (a := p + 1) (by omega)
    rw [Nat.add_sub_cancel] at b1
    generalize dRw r = d at *
    generalize dRw R[p] = e at *
    have c1 : cmpD .eq (.int ((p + 1 : Nat) : Int)) (.int 0) = some false := c1
    have c2 : cmpD .gt (.int ((p + 1 : Nat) : Int)) (.int 0) = some true := by rw [c2, decide_eq_true (by omega)]
    generalize ((p + 1 : Nat) : Int) = zz at *
    simp [evSs, evS, evs, evr, truR, startE, cellsF, cellF, evq_c, evq_v, evq_bin, evq_cmp, evq_chn, evq_and_, evq_or_, evq_not_, evq_neg, evq_ite, evq_tup, evq_lst, evq_ix, evq_blt, evq_isin, Mp.R.bind, Mp.R.take, Mp.R.toS, SR.seq, takeO, rdO, cellAt, content, truD, runF, outE, lift, cl_first_wrong_0, cl_first_wrong_1, cl_first_wrong_2, q1, q2, q3, q4, q5, b1, c1, c2]
theorem fw_loop {C : D} {R : List Rw} (S : Sq C (R.map dRw)) (h : Checked R) : ∀ (l : List Rw) (p : Nat) (x1 x2 : Option Cell), R.drop p = l → frC x1 = true → frC x2 = true →
    ∃ y1 y2, frC y1 = true ∧ frC y2 = true ∧ forL (.tup [1, 2]) (fun e => evSs g_first_wrong bFW e) (enumD p (l.map dRw)) [some (.dat C), x1, x2, none, none, none] = .nx [some (.dat C), y1, y2, none, none, none]
  | [], p, x1, x2, _, h1, h2 => ⟨x1, x2, h1, h2, rfl⟩
  | r :: l, p, x1, x2, hd, h1, h2 => by
    have hr : R[p]? = some r := by
      have : (R.drop p)[0]? = some r := by rw [hd]; rfl
      simpa using this
    have hd' : R.drop (p + 1) = l := by
      have : (R.drop p).drop 1 = l := by rw [hd]; rfl
      rwa [List.drop_drop] at this
    have t := fw_turn S h p r hr
    obtain ⟨y1, y2, f1, f2, k⟩ := fw_loop S h l (p + 1) (some (.dat (.int p))) (some (.dat (dRw r))) hd' rfl rfl
    refine ⟨y1, y2, f1, f2, ?_⟩
    have hb : bindT (.tup [1, 2]) (.tup [.int p, dRw r]) [some (.dat C), x1, x2, none, none, none] = some [some (.dat C), some (.dat (.int p)), some (.dat (dRw r)), none, none, none] := by
      unfold bindT
      simp [freeB_eq, h1, h2]
    rw [List.map_cons, enumD, forL, hb]
    dsimp only
    rw [t]
    exact k
theorem last_rw {C : D} {R : List Rw} (S : Sq C (R.map dRw)) {r : Rw} (h : R.getLast? = some r) : ixD C (.int (-1)) = some (dRw r) := by
  have hne : R ≠ [] := fun z => by rw [z] at h; cases h
  rw [S.ix, last_at _ (by simpa using hne), List.getLast?_map, h]; rfl
theorem s_first_wrong {C : D} {R : List Rw} (S : Sq C (R.map dRw)) (h : Checked R) : f_first_wrong.sem [C] = .ok .non [] := by
  obtain ⟨y1, y2, f1, f2, k⟩ := fw_loop S h R 0 none none rfl rfl rfl
  obtain ⟨r, hr⟩ : ∃ r, R.getLast? = some r := by
    cases hh : R.getLast? with
    | some r => exact ⟨r, rfl⟩
    | none =>
      have := List.getLast?_eq_none_iff.mp hh
      have z := h.z
      rw [this] at z; cases z
  have q1 := last_rw S hr
  have en := h.en r hr
  have e := evi_enum (G := g_first_wrong) (i := 0) (env := [some (.dat C), none, none, none, none, none]) S.sq rfl
  have T : evS g_first_wrong (.for_ (.tup [1, 2]) (.enum (.v 0)) bFW) [some (.dat C), none, none, none, none, none] = .nx [some (.dat C), y1, y2, none, none, none] := by
    rw [evS, e]; exact k
  have e0 : b_first_wrong = [.for_ (.tup [1, 2]) (.enum (.v 0)) bFW, .asg (.tup [3, 4, 5]) (.ix (.v 0) (.neg (.c (.int 1)))), .ret (.ite (.or_ (.cmp .is_ (.v 4) (.c .non)) (.v 5)) (.c .non) (.bin .sub (.blt .len [.v 0]) (.c (.int 1))))] := rfl
  have st : startE none 6 [C] = [some (.dat C), none, none, none, none, none] := rfl
  show semB g_first_wrong 6 none b_first_wrong [C] = _
  unfold semB
  rw [e0, st, evSs, T, seq_nx]
  have c := is_dM r.v
  unfold endsRight at en
  have dr : dRw r = .tup [.int (r.s : Nat), dM r.v, .bl r.g] := rfl
  rw [dr] at q1
  cases hv : r.v with
  | none =>
    rw [hv] at c q1
    generalize dM none = z at *
    have c : cmpD .is_ z .non = some true := c
    simp [evSs, evS, evs, evr, truR, startE, cellsF, cellF, evq_c, evq_v, evq_bin, evq_cmp, evq_chn, evq_and_, evq_or_, evq_not_, evq_neg, evq_ite, evq_tup, evq_lst, evq_ix, evq_blt, evq_isin, Mp.R.bind, Mp.R.take, Mp.R.toS, SR.seq, takeO, rdO, cellAt, content, truD, runF, outE, lift, q1, c, bindT, freeB_eq, f1, f2]
  | some v =>
    rw [hv] at c q1 en
    have en : r.g = true := en
    rw [en] at q1
    generalize dM (some v) = z at *
    have c : cmpD .is_ z .non = some false := c
    simp [evSs, evS, evs, evr, truR, startE, cellsF, cellF, evq_c, evq_v, evq_bin, evq_cmp, evq_chn, evq_and_, evq_or_, evq_not_, evq_neg, evq_ite, evq_tup, evq_lst, evq_ix, evq_blt, evq_isin, Mp.R.bind, Mp.R.take, Mp.R.toS, SR.seq, takeO, rdO, cellAt, content, truD, runF, outE, lift, q1, c, bindT, freeB_eq, f1, f2]
end Mp
set_option maxHeartbeats 4000000
namespace Mp
open PySem L2
variable [TabsW] [GdW]
variable [TabsW] [GdW]
variable [TabsW] [GdW]
theorem iota_ns : ∀ (k s : Nat), iotaD (s : Int) k = dNs (List.range' s k)
  | 0, s => rfl
  | k + 1, s => by
    rw [List.range'_succ]
    unfold iotaD dNs
    rw [List.map_cons]
    have := iota_ns k (s + 1)
    unfold dNs at this
    rw [← this]
    rfl
theorem min_nat (a b : Nat) : bltD .min2 [.int (a : Int), .int (b : Int)] = some (.int ((min a b : Nat) : Int)) := by
  show some (D.int (if (b : Int) < (a : Int) then (b : Int) else (a : Int))) = _
  congr 2
  split <;> omega
theorem s_first_minutes (s : Nat) (e : Option Nat) (hs : s ≤ 999900) (he : ∀ x, e = some x → x ≤ 999900) : f_first_minutes.sem [.int s, dM e] = .ok (.lst (dNs (minsM s e))) [] := by
  have hB : BIG = 100000 := rfl
  have a3 : binD .add (.int (s : Int)) (.int 3) = some (.int ((s + 3 : Nat) : Int)) := rfl
  show semB g_first_minutes 2 none b_first_minutes [.int s, dM e] = _
  unfold semB b_first_minutes
  cases e with
  | none =>
    have c : cmpD .is_ (dM none) .non = some true := rfl
    have i : iotaD (s : Int) (((s + 3 : Nat) : Int) - (s : Int)).toNat = dNs (minsM s none) := by
      rw [show (((s + 3 : Nat) : Int) - (s : Int)).toNat = 3 by omega, iota_ns]; rfl
    have i2 : iotaD (s : Int) ((((s + 3 : Nat) : Int)).toNat - s) = dNs (minsM s none) := by rw [← i]; congr 1; omega
    have cond : -1000000 ≤ (s : Int) ∧ (s : Int) ≤ 1000000 ∧ -1000000 ≤ ((s + 3 : Nat) : Int) ∧ ((s + 3 : Nat) : Int) ≤ 1000000 ∧ ((s + 3 : Nat) : Int) - (s : Int) ≤ BIG := ⟨by omega, by omega, by omega, by omega, by omega⟩
    generalize dM none = z at *
    generalize dNs (minsM s none) = O at *
    generalize ((s + 3 : Nat) : Int) = s3 at *
    simp [evSs, evS, evs, evr, truR, startE, cellsF, cellF, evq_c, evq_v, evq_bin, evq_cmp, evq_chn, evq_and_, evq_or_, evq_not_, evq_neg, evq_ite, evq_tup, evq_lst, evq_ix, evq_blt, evq_isin, Mp.R.bind, Mp.R.take, Mp.R.toS, SR.seq, takeO, rdO, cellAt, content, truD, runF, outE, lift, evq_lrng2, R.rd, c, a3, i, i2, cond]
  | some e =>
    have he := he e rfl
    have c : cmpD .is_ (dM (some e)) .non = some false := rfl
    have ci : bltD .int [dM (some e)] = some (.int (e : Int)) := rfl
    have mn := min_nat e (s + 3)
    have i : iotaD (s : Int) (((min e (s + 3) : Nat) : Int) - (s : Int)).toNat = dNs (minsM s (some e)) := by
      rw [show (((min e (s + 3) : Nat) : Int) - (s : Int)).toNat = min e (s + 3) - s by omega, iota_ns]; rfl
    have i2 : iotaD (s : Int) ((((min e (s + 3) : Nat) : Int)).toNat - s) = dNs (minsM s (some e)) := by rw [← i]; congr 1; omega
    have cond : -1000000 ≤ (s : Int) ∧ (s : Int) ≤ 1000000 ∧ -1000000 ≤ ((min e (s + 3) : Nat) : Int) ∧ ((min e (s + 3) : Nat) : Int) ≤ 1000000 ∧ ((min e (s + 3) : Nat) : Int) - (s : Int) ≤ BIG := ⟨by omega, by omega, by omega, by omega, by omega⟩
    generalize dM (some e) = z at *
    generalize dNs (minsM s (some e)) = O at *
    generalize ((s + 3 : Nat) : Int) = s3 at *
    generalize ((min e (s + 3) : Nat) : Int) = me at *
    simp [evSs, evS, evs, evr, truR, startE, cellsF, cellF, evq_c, evq_v, evq_bin, evq_cmp, evq_chn, evq_and_, evq_or_, evq_not_, evq_neg, evq_ite, evq_tup, evq_lst, evq_ix, evq_blt, evq_isin, Mp.R.bind, Mp.R.take, Mp.R.toS, SR.seq, takeO, rdO, cellAt, content, truD, runF, outE, lift, evq_lrng2, R.rd, c, ci, mn, a3, i, i2, cond]
def dW : Option Rw → D
  | none => .non
  | some w => dRw w
theorem wid_far {r : Rw} {m : Nat} {x : Option Nat} (h1 : ¬ giv r m = x) (h2 : ¬ m = r.s + 1) : wid r m x = none := by
  unfold wid
  rw [if_neg h1]
  obtain ⟨s, v, g⟩ := r
  cases v with
  | none => rfl
  | some v => exact if_neg (fun z => h2 z.1)
theorem s_widened (r : Rw) (m : Nat) (x : Option Nat) (ha : r.v = none → r.g = false) (hm : r.s ≤ m) : f_widened.sem [dRw r, .int m, dM x] = .ok (dW (wid r m x)) [] := by
  have q1 := s_row_gives r m ha (fun _ => hm)
  have c1 := cmp_dM (giv r m) x
  have b1 := add_1 r.s
  have c2 := cmp_dM (some m) (some (r.s + 1))
  have c2 : cmpD .eq (.int (m : Int)) (.int ((r.s + 1 : Nat) : Int)) = some (some m == some (r.s + 1)) := c2
  have dr : dRw r = .tup [.int (r.s : Nat), dM r.v, .bl r.g] := rfl
  have T : evS g_widened (.asg (.tup [3, 4, 5]) (.v 0)) [some (.dat (dRw r)), some (.dat (.int m)), some (.dat (dM x)), none, none, none] = .nx [some (.dat (dRw r)), some (.dat (.int m)), some (.dat (dM x)), some (.dat (.int (r.s : Nat))), some (.dat (dM r.v)), some (.dat (.bl r.g))] := by
    generalize dM x = X at *
    generalize hR : dRw r = DR at *
    rw [evS]
    have t : (ev g_widened (.v 0) [some (.dat DR), some (.dat (.int m)), some (.dat X), none, none, none]).take = .ok DR [some (.dat DR), some (.dat (.int m)), some (.dat X), none, none, none] := rfl
    rw [t]
    show (match bindT (.tup [3, 4, 5]) DR [some (.dat DR), some (.dat (.int m)), some (.dat X), none, none, none] with
      | some e2 => SR.nx e2
      | none => .bad) = _
    have : bindT (.tup [3, 4, 5]) DR [some (.dat DR), some (.dat (.int m)), some (.dat X), none, none, none] = some [some (.dat DR), some (.dat (.int m)), some (.dat X), some (.dat (.int (r.s : Nat))), some (.dat (dM r.v)), some (.dat (.bl r.g))] := by
      conv => lhs; arg 2; rw [dr]
      rfl
    rw [this]
  have e0 : b_widened = .asg (.tup [3, 4, 5]) (.v 0) :: [.if_ (.cmp .eq (.call 0 [.v 0, .v 1]) (.v 2)) [.ret (.v 0)] [], .if_ (.and_ (.cmp .eq (.v 1) (.bin .add (.v 3) (.c (.int 1)))) (.and_ (.cmp .isnot (.v 4) (.c .non)) (.cmp .eq (.v 2) (.bin .add (.v 4) (.c (.int 1)))))) [.ret (.tup [.v 3, .v 4, .c (.bl true)])] [], .ret (.c .non)] := rfl
  show semB g_widened 6 none b_widened [dRw r, .int m, dM x] = _
  unfold semB
  rw [e0]
  have st : startE none 6 [dRw r, .int (m : Int), dM x] = [some (.dat (dRw r)), some (.dat (.int m)), some (.dat (dM x)), none, none, none] := rfl
  rw [st, evSs, T, seq_nx]
  have h3b : 3 ≤ BIG := by have hB : BIG = 100000 := rfl; omega
  by_cases h1 : giv r m = x
  · unfold wid
    rw [if_pos h1]
    rw [beq_iff_eq.mpr h1] at c1
    unfold dW
    dsimp only
    generalize dM (giv r m) = z at *
    generalize dM x = X at *
    generalize dRw r = DR at *
    generalize dM r.v = V at *
    simp [evSs, evS, evs, evr, truR, startE, cellsF, cellF, evq_c, evq_v, evq_bin, evq_cmp, evq_chn, evq_and_, evq_or_, evq_not_, evq_neg, evq_ite, evq_tup, evq_lst, evq_ix, evq_blt, evq_isin, Mp.R.bind, Mp.R.take, Mp.R.toS, SR.seq, takeO, rdO, cellAt, content, truD, runF, outE, lift, cl_widened_0, q1, c1]
  · rw [beq_eq_false_iff_ne.mpr h1] at c1
    by_cases h2 : m = r.s + 1
    · unfold wid
      rw [if_neg h1]
      rw [beq_iff_eq.mpr (congrArg some h2)] at c2
      cases hv : r.v with
      | none =>
        have ci : cmpD .isnot (dM none) .non = some false := rfl
        show _ = FR.ok D.non []
        generalize dM none = z0 at *
        generalize dM (giv r m) = z at *
        generalize dM x = X at *
        generalize dRw r = DR at *
        generalize ((r.s + 1 : Nat) : Int) = s1 at *
        simp [evSs, evS, evs, evr, truR, startE, cellsF, cellF, evq_c, evq_v, evq_bin, evq_cmp, evq_chn, evq_and_, evq_or_, evq_not_, evq_neg, evq_ite, evq_tup, evq_lst, evq_ix, evq_blt, evq_isin, Mp.R.bind, Mp.R.take, Mp.R.toS, SR.seq, takeO, rdO, cellAt, content, truD, runF, outE, lift, cl_widened_0, q1, c1, b1, c2, ci]
      | some v =>
        have ci : cmpD .isnot (.int (v : Int)) .non = some true := rfl
        have b2 := add_1 v
        have c3 := cmp_dM x (some (v + 1))
        have c3 : cmpD .eq (dM x) (.int ((v + 1 : Nat) : Int)) = some (x == some (v + 1)) := c3
        have dv : dM (some v) = .int (v : Int) := rfl
        rw [dv]
        dsimp only
        by_cases h3 : x = some (v + 1)
        · rw [if_pos ⟨h2, h3⟩]
          rw [beq_iff_eq.mpr h3] at c3
          show _ = FR.ok (D.tup [.int (r.s : Nat), .int (v : Nat), .bl true]) []
          generalize dM (giv r m) = z at *
          generalize dM x = X at *
          generalize dRw r = DR at *
          generalize ((r.s + 1 : Nat) : Int) = s1 at *
          generalize ((v + 1 : Nat) : Int) = v1 at *
          simp [evSs, evS, evs, evr, truR, startE, cellsF, cellF, evq_c, evq_v, evq_bin, evq_cmp, evq_chn, evq_and_, evq_or_, evq_not_, evq_neg, evq_ite, evq_tup, evq_lst, evq_ix, evq_blt, evq_isin, Mp.R.bind, Mp.R.take, Mp.R.toS, SR.seq, takeO, rdO, cellAt, content, truD, runF, outE, lift, cl_widened_0, q1, c1, b1, c2, ci, b2, c3, h3b]
        · rw [if_neg (fun z => h3 z.2)]
          rw [beq_eq_false_iff_ne.mpr h3] at c3
          show _ = FR.ok D.non []
          generalize dM (giv r m) = z at *
          generalize dM x = X at *
          generalize dRw r = DR at *
          generalize ((r.s + 1 : Nat) : Int) = s1 at *
          generalize ((v + 1 : Nat) : Int) = v1 at *
          simp [evSs, evS, evs, evr, truR, startE, cellsF, cellF, evq_c, evq_v, evq_bin, evq_cmp, evq_chn, evq_and_, evq_or_, evq_not_, evq_neg, evq_ite, evq_tup, evq_lst, evq_ix, evq_blt, evq_isin, Mp.R.bind, Mp.R.take, Mp.R.toS, SR.seq, takeO, rdO, cellAt, content, truD, runF, outE, lift, cl_widened_0, q1, c1, b1, c2, ci, b2, c3, h3b]
    · rw [beq_eq_false_iff_ne.mpr (fun z => h2 (Option.some.inj z))] at c2
      rw [wid_far h1 h2]
      show _ = FR.ok D.non []
      generalize dM (giv r m) = z at *
      generalize dM x = X at *
      generalize dRw r = DR at *
      generalize dM r.v = V at *
      generalize ((r.s + 1 : Nat) : Int) = s1 at *
      simp [evSs, evS, evs, evr, truR, startE, cellsF, cellF, evq_c, evq_v, evq_bin, evq_cmp, evq_chn, evq_and_, evq_or_, evq_not_, evq_neg, evq_ite, evq_tup, evq_lst, evq_ix, evq_blt, evq_isin, Mp.R.bind, Mp.R.take, Mp.R.toS, SR.seq, takeO, rdO, cellAt, content, truD, runF, outE, lift, cl_widened_0, q1, c1, b1, c2]
end Mp
set_option maxHeartbeats 4000000
namespace Mp
open PySem L2
variable [TabsW] [GdW]
variable [TabsW] [GdW]
variable [TabsW] [GdW]
def dRs (acc : List Rw) : List D := acc.reverse.map dRw
theorem dRs_cons (r : Rw) (a : List Rw) : dRs (r :: a) = dRs a ++ [dRw r] := by unfold dRs; rw [List.reverse_cons, List.map_append]; rfl
theorem dRs_len (a : List Rw) : (dRs a).length = a.length := by unfold dRs; simp
def bTI : List ST := [.asg (.name 5) (.call 2 [.v 3, .v 4]), .asg (.name 6) (.ite (.v 1) (.call 3 [.ix (.v 1) (.neg (.c (.int 1))), .v 4, .v 5]) (.c .non)), .if_ (.cmp .is_ (.v 6) (.c .non)) [.expr (.app 1 (.tup [.v 4, .v 5, .c (.bl false)]))] [.setL 1 (.neg (.c (.int 1))) (.v 6)]]
def envT (C : D) (acc : List Rw) (p : Nat) (r : Rw) (x4 x5 x6 : Option Cell) : Env := [some (.dat C), some (.own (dRs acc)), some (.dat (.int p)), some (.dat (dRw r)), x4, x5, x6]
/-- what is kept of the rows told so far -/
def TI (acc : List Rw) (m : Nat) : Prop := ∀ h, h ∈ acc → (h.v = none → h.g = false) ∧ h.s ≤ m
theorem TI.tell {acc : List Rw} {m : Nat} {x : Option Nat} (h : TI acc m) : TI (tell acc m x) (m + 1) := by
  intro q hq
  unfold Mp.tell at hq
  cases acc with
  | nil => rw [List.mem_singleton.mp hq]; exact ⟨fun _ => rfl, Nat.le_succ m⟩
  | cons r a =>
    dsimp only at hq
    have hr := h r List.mem_cons_self
    cases hw : wid r m x with
    | none =>
      rw [hw] at hq
      rcases List.mem_cons.mp hq with rfl | hq
      · exact ⟨fun _ => rfl, Nat.le_succ m⟩
      · exact ⟨(h q hq).1, Nat.le_succ_of_le (h q hq).2⟩
    | some w =>
      rw [hw] at hq
      rcases List.mem_cons.mp hq with rfl | hq
      · unfold wid at hw
        split at hw
        · cases hw; exact ⟨hr.1, Nat.le_succ_of_le hr.2⟩
        · split at hw
          · cases hw
          · split at hw
            · cases hw; exact ⟨fun z => (nomatch z), Nat.le_succ_of_le hr.2⟩
            · cases hw
      · exact ⟨(h q (List.mem_cons_of_mem _ hq)).1, Nat.le_succ_of_le (h q (List.mem_cons_of_mem _ hq)).2⟩
theorem TI.mono {acc : List Rw} {m n : Nat} (h : TI acc m) (hm : m ≤ n) : TI acc n := fun q hq => ⟨(h q hq).1, Nat.le_trans (h q hq).2 hm⟩
theorem ti_turn (C : D) (acc : List Rw) (p : Nat) (r : Rw) (m : Nat) (x5 x6 : Option Cell) (hT : TI acc m) (ha : r.v = none → r.g = false) (hm : r.s ≤ m) (hl : acc.length < BIG) (h5 : frC x5 = true) (h6 : frC x6 = true) :
    ∃ y5 y6, frC y5 = true ∧ frC y6 = true ∧ evSs g_told_rows bTI (envT C acc p r (some (.dat (.int m))) x5 x6) = .nx (envT C (tell acc m (giv r m)) p r (some (.dat (.int m))) y5 y6) := by
  have q1 := s_row_gives r m ha (fun _ => hm)
  have h3b : 3 ≤ BIG := by have hB : BIG = 100000 := rfl; omega
  cases acc with
  | nil =>
    refine ⟨some (.dat (dM (giv r m))), some (.dat .non), rfl, rfl, ?_⟩
    have e : dRs (tell [] m (giv r m)) = [.tup [.int (m : Nat), dM (giv r m), .bl false]] := rfl
    have e2 : dRs [] = [] := rfl
    have c : cmpD .is_ .non .non = some true := rfl
    have hb : 0 < BIG := by omega
    unfold envT bTI
    rw [e, e2]
    generalize dM (giv r m) = z at *
    generalize dRw r = DR at *
    simp [evSs, evS, evs, evr, truR, startE, cellsF, cellF, evq_c, evq_v, evq_bin, evq_cmp, evq_chn, evq_and_, evq_or_, evq_not_, evq_neg, evq_ite, evq_tup, evq_lst, evq_ix, evq_blt, evq_isin, Mp.R.bind, Mp.R.take, Mp.R.toS, SR.seq, takeO, rdO, cellAt, content, truD, runF, outE, lift, cl_told_rows_2, q1, bindT, freeB_eq, h5, h6, c, evq_app, ownB, hb, h3b]
  | cons h a =>
    have hh := hT h List.mem_cons_self
    have q2 := s_widened h m (giv r m) hh.1 hh.2
    have hne : dRs (h :: a) ≠ [] := by rw [dRs_cons]; simp
    have q3 : atI (dRs (h :: a)) (-1) = some (dRw h) := by
      rw [last_at _ hne, dRs_cons, List.getLast?_append]; rfl
    have ie : (dRs (h :: a)).isEmpty = false := by
      cases hq : dRs (h :: a) with
      | nil => exact absurd hq hne
      | cons _ _ => rfl
    have lb : (dRs (h :: a)).length < BIG := by rw [dRs_len]; exact hl
    refine ⟨some (.dat (dM (giv r m))), some (.dat (dW (wid h m (giv r m)))), rfl, rfl, ?_⟩
    have S1 : evS g_told_rows (.asg (.name 5) (.call 2 [.v 3, .v 4])) (envT C (h :: a) p r (some (.dat (.int m))) x5 x6) = .nx (envT C (h :: a) p r (some (.dat (.int m))) (some (.dat (dM (giv r m)))) x6) := by
      unfold envT
      generalize dM (giv r m) = z at *
      generalize dRw r = DR at *
      generalize dRs (h :: a) = O at *
      simp [evSs, evS, evs, evr, truR, startE, cellsF, cellF, evq_c, evq_v, evq_bin, evq_cmp, evq_chn, evq_and_, evq_or_, evq_not_, evq_neg, evq_ite, evq_tup, evq_lst, evq_ix, evq_blt, evq_isin, Mp.R.bind, Mp.R.take, Mp.R.toS, SR.seq, takeO, rdO, cellAt, content, truD, runF, outE, lift, cl_told_rows_2, q1, bindT, freeB_eq, h5]
    have S2 : evS g_told_rows (.asg (.name 6) (.ite (.v 1) (.call 3 [.ix (.v 1) (.neg (.c (.int 1))), .v 4, .v 5]) (.c .non))) (envT C (h :: a) p r (some (.dat (.int m))) (some (.dat (dM (giv r m)))) x6) = .nx (envT C (h :: a) p r (some (.dat (.int m))) (some (.dat (dM (giv r m)))) (some (.dat (dW (wid h m (giv r m)))))) := by
      unfold envT
      generalize dW (wid h m (giv r m)) = w at *
      generalize dM (giv r m) = z at *
      generalize dRw r = DR at *
      generalize dRs (h :: a) = O at *
      generalize dRw h = DH at *
      simp [evSs, evS, evs, evr, truR, startE, cellsF, cellF, evq_c, evq_v, evq_bin, evq_cmp, evq_chn, evq_and_, evq_or_, evq_not_, evq_neg, evq_ite, evq_tup, evq_lst, evq_ix, evq_blt, evq_isin, Mp.R.bind, Mp.R.take, Mp.R.toS, SR.seq, takeO, rdO, cellAt, content, truD, runF, outE, lift, cl_told_rows_3, q2, q3, ie, ixD, R.rd, bindT, freeB_eq, h6]
    unfold bTI
    rw [evSs, S1, seq_nx, evSs, S2, seq_nx]
    cases hw : wid h m (giv r m) with
    | none =>
      have e : dRs (tell (h :: a) m (giv r m)) = dRs (h :: a) ++ [.tup [.int (m : Nat), dM (giv r m), .bl false]] := by
        unfold tell
        dsimp only
        rw [hw]
        dsimp only
        rw [dRs_cons]
        rfl
      have c : cmpD .is_ .non .non = some true := rfl
      unfold envT dW
      rw [e]
      dsimp only
      generalize dM (giv r m) = z at *
      generalize dRw r = DR at *
      generalize dRs (h :: a) = O at *
      simp [evSs, evS, evs, evr, truR, startE, cellsF, cellF, evq_c, evq_v, evq_bin, evq_cmp, evq_chn, evq_and_, evq_or_, evq_not_, evq_neg, evq_ite, evq_tup, evq_lst, evq_ix, evq_blt, evq_isin, Mp.R.bind, Mp.R.take, Mp.R.toS, SR.seq, takeO, rdO, cellAt, content, truD, runF, outE, lift, c, evq_app, ownB, lb, h3b]
    | some w =>
      have e : dRs (tell (h :: a) m (giv r m)) = (dRs (h :: a)).set a.length (dRw w) := by
        unfold tell
        dsimp only
        rw [hw]
        dsimp only
        rw [dRs_cons, dRs_cons, List.set_append_right _ _ (by rw [dRs_len]; omega), dRs_len, Nat.sub_self]
        rfl
      have c : cmpD .is_ (dRw w) .non = some false := rfl
      have ix : ixN (dRs (h :: a)).length (-1) = some a.length := by
        rw [dRs_len]
        unfold ixN
        rw [if_neg (by omega), if_pos (by simp only [List.length_cons]; omega)]
        congr 1
        simp only [List.length_cons]; omega
      unfold envT dW
      rw [e]
      dsimp only
      generalize dM (giv r m) = z at *
      generalize dRw r = DR at *
      generalize dRs (h :: a) = O at *
      generalize dRw w = DW at *
      simp [evSs, evS, evs, evr, truR, startE, cellsF, cellF, evq_c, evq_v, evq_bin, evq_cmp, evq_chn, evq_and_, evq_or_, evq_not_, evq_neg, evq_ite, evq_tup, evq_lst, evq_ix, evq_blt, evq_isin, Mp.R.bind, Mp.R.take, Mp.R.toS, SR.seq, takeO, rdO, cellAt, content, truD, runF, outE, lift, c, placeB, ix, R.rd]
end Mp
set_option maxHeartbeats 4000000
namespace Mp
open PySem L2
variable [TabsW] [GdW]
variable [TabsW] [GdW]
variable [TabsW] [GdW]
theorem ti_loop (C : D) (p : Nat) (r : Rw) (ha : r.v = none → r.g = false) : ∀ (k n : Nat) (acc : List Rw) (x4 x5 x6 : Option Cell), TI acc n → r.s ≤ n → acc.length + k ≤ BIG → frC x4 = true → frC x5 = true → frC x6 = true →
    ∃ y4 y5 y6, frC y4 = true ∧ frC y5 = true ∧ frC y6 = true ∧ forL (.name 4) (fun e => evSs g_told_rows bTI e) (dNs (List.range' n k)) (envT C acc p r x4 x5 x6) = .nx (envT C ((List.range' n k).foldl (fun acc m => tell acc m (giv r m)) acc) p r y4 y5 y6) ∧
      TI ((List.range' n k).foldl (fun acc m => tell acc m (giv r m)) acc) (n + k) ∧ ((List.range' n k).foldl (fun acc m => tell acc m (giv r m)) acc).length ≤ acc.length + k
  | 0, n, acc, x4, x5, x6, hT, _, _, h4, h5, h6 => ⟨x4, x5, x6, h4, h5, h6, rfl, hT, Nat.le_refl _⟩
  | k + 1, n, acc, x4, x5, x6, hT, hn, hl, h4, h5, h6 => by
    obtain ⟨z5, z6, f5, f6, t⟩ := ti_turn C acc p r n x5 x6 hT ha hn (by omega) h5 h6
    have tl := tell_len acc n (giv r n)
    obtain ⟨y4, y5, y6, g4, g5, g6, k1, k2, k3⟩ := ti_loop C p r ha k (n + 1) (tell acc n (giv r n)) (some (.dat (.int n))) z5 z6 hT.tell (by omega) (by omega) rfl f5 f6
    have hb : bindT (.name 4) (.int (n : Nat)) (envT C acc p r x4 x5 x6) = some (envT C acc p r (some (.dat (.int n))) x5 x6) := by
      unfold bindT envT
      simp [freeB_eq, h4]
    rw [List.range'_succ, List.foldl_cons]
    refine ⟨y4, y5, y6, g4, g5, g6, ?_, by rw [show n + (k + 1) = n + 1 + k by omega]; exact k2, by omega⟩
    have e : dNs (n :: List.range' (n + 1) k) = .int (n : Nat) :: dNs (List.range' (n + 1) k) := rfl
    rw [e, forL, hb]
    dsimp only
    rw [t]
    exact k1
def bTO : List ST := [.for_ (.name 4) (.seq (.call 0 [.ix (.v 3) (.c (.int 0)), .call 1 [.v 0, .v 2]])) bTI]
theorem mins_range (s : Nat) (e : Option Nat) : ∃ k, minsM s e = List.range' s k ∧ k ≤ 3 ∧ ∀ x, e = some x → s < x → s + k ≤ x := by
  cases e with
  | none => exact ⟨3, rfl, Nat.le_refl 3, fun _ h => nomatch h⟩
  | some e => exact ⟨min e (s + 3) - s, rfl, by omega, fun x hx hs => by cases hx; omega⟩
theorem to_row {C : D} {R : List Rw} (S : Sq C (R.map dRw)) (hs : SmR 900000 R) (p : Nat) (r : Rw) (hr : R[p]? = some r) (ha : r.v = none → r.g = false) (acc : List Rw) (hT : TI acc r.s) (hl : acc.length + 3 ≤ BIG) (x4 x5 x6 : Option Cell) (h4 : frC x4 = true) (h5 : frC x5 = true) (h6 : frC x6 = true) :
    ∃ y4 y5 y6, frC y4 = true ∧ frC y5 = true ∧ frC y6 = true ∧ evSs g_told_rows bTO (envT C acc p r x4 x5 x6) = .nx (envT C (toldRow acc r (nextS R p)) p r y4 y5 y6) ∧ (∀ x, nextS R p = some x → r.s < x → TI (toldRow acc r (nextS R p)) x) ∧ (toldRow acc r (nextS R p)).length ≤ acc.length + 3 := by
  have b1 := hs r (List.mem_of_getElem? hr)
  have b2 : ∀ x, nextS R p = some x → x ≤ 999900 := fun x hx => by
    unfold nextS at hx
    obtain ⟨q, hq, rfl⟩ := Option.map_eq_some_iff.mp hx
    have := hs q (List.mem_of_getElem? hq)
    omega
  have q1 := s_first_minutes r.s (nextS R p) (by omega) b2
  have q2 := s_end_of S p
  have q3 := row_s r
  obtain ⟨k, e, hk, hx⟩ := mins_range r.s (nextS R p)
  obtain ⟨y4, y5, y6, g4, g5, g6, k1, k2, k3⟩ := ti_loop C p r ha k r.s acc x4 x5 x6 hT (Nat.le_refl _) (by omega) h4 h5 h6
  have tr : toldRow acc r (nextS R p) = (List.range' r.s k).foldl (fun acc m => tell acc m (giv r m)) acc := by unfold toldRow; rw [e]
  rw [tr]
  rw [e] at q1
  refine ⟨y4, y5, y6, g4, g5, g6, ?_, fun x h1 h2 => k2.mono (hx x h1 h2), by omega⟩
  have it : evi g_told_rows (.seq (.call 0 [.ix (.v 3) (.c (.int 0)), .call 1 [.v 0, .v 2]])) (envT C acc p r x4 x5 x6) = .ok (dNs (List.range' r.s k)) (envT C acc p r x4 x5 x6) := by
    rw [evi]
    unfold envT
    have t : (ev g_told_rows (.call 0 [.ix (.v 3) (.c (.int 0)), .call 1 [.v 0, .v 2]]) [some (.dat C), some (.own (dRs acc)), some (.dat (.int p)), some (.dat (dRw r)), x4, x5, x6]).take = .ok (.lst (dNs (List.range' r.s k))) [some (.dat C), some (.own (dRs acc)), some (.dat (.int p)), some (.dat (dRw r)), x4, x5, x6] := by
      generalize dM (nextS R p) = z at *
      generalize dRw r = DR at *
      generalize dRs acc = O at *
      generalize dNs (List.range' r.s k) = L at *
      simp [evSs, evS, evs, evr, truR, startE, cellsF, cellF, evq_c, evq_v, evq_bin, evq_cmp, evq_chn, evq_and_, evq_or_, evq_not_, evq_neg, evq_ite, evq_tup, evq_lst, evq_ix, evq_blt, evq_isin, Mp.R.bind, Mp.R.take, Mp.R.toS, SR.seq, takeO, rdO, cellAt, content, truD, runF, outE, lift, cl_told_rows_0, cl_told_rows_1, q1, q2, q3]
    rw [t]; rfl
  unfold bTO
  rw [evSs, evS, it]
  show (forL (.name 4) (fun e => evSs g_told_rows bTI e) (dNs (List.range' r.s k)) (envT C acc p r x4 x5 x6)).seq _ = _
  rw [k1]
  rfl
theorem go_step (acc : List Rw) (r : Rw) (l : List Rw) : toldGo acc (r :: l) = toldGo (toldRow acc r (l.head?.map (·.s))) l := by
  cases l <;> rfl
theorem to_loop {C : D} {R : List Rw} (S : Sq C (R.map dRw)) (hs : SmR 900000 R) (st : StR R) (al : ∀ r, r ∈ R → r.v = none → r.g = false) : ∀ (l : List Rw) (p : Nat) (acc : List Rw) (x2 x3 x4 x5 x6 : Option Cell), R.drop p = l → (∀ r, l.head? = some r → TI acc r.s) → acc.length + 3 * l.length ≤ BIG → frC x2 = true → frC x3 = true → frC x4 = true → frC x5 = true → frC x6 = true →
    ∃ y2 y3 y4 y5 y6, forL (.tup [2, 3]) (fun e => evSs g_told_rows bTO e) (enumD p (l.map dRw)) [some (.dat C), some (.own (dRs acc)), x2, x3, x4, x5, x6] = .nx [some (.dat C), some (.own (dRs (toldGo acc l))), y2, y3, y4, y5, y6]
  | [], p, acc, x2, x3, x4, x5, x6, _, _, _, _, _, _, _, _ => ⟨x2, x3, x4, x5, x6, by rw [show toldGo acc [] = acc from by unfold toldGo; rfl]; rfl⟩
  | r :: l, p, acc, x2, x3, x4, x5, x6, hd, hT, hl, h2, h3, h4, h5, h6 => by
    rw [List.length_cons] at hl
    have hr : R[p]? = some r := by
      have : (R.drop p)[0]? = some r := by rw [hd]; rfl
      simpa using this
    have hd' : R.drop (p + 1) = l := by
      have : (R.drop p).drop 1 = l := by rw [hd]; rfl
      rwa [List.drop_drop] at this
    have nx : nextS R p = l.head?.map (·.s) := by
      unfold nextS
      rw [← hd', List.head?_drop]
    obtain ⟨z4, z5, z6, f4, f5, f6, t1, t2, t3⟩ := to_row S hs p r hr (al r (List.mem_of_getElem? hr)) acc (hT r rfl) (by omega) x4 x5 x6 h4 h5 h6
    rw [nx] at t1 t2 t3
    obtain ⟨y2, y3, y4, y5, y6, k⟩ := to_loop S hs st al l (p + 1) (toldRow acc r (l.head?.map (·.s))) (some (.dat (.int p))) (some (.dat (dRw r))) z4 z5 z6 hd' (fun q hq => by
      refine t2 q.s (by rw [hq]; rfl) ?_
      have s2 : StR (r :: l) := by rw [← hd]; exact st.sublist (List.drop_sublist p R)
      cases l with
      | nil => cases hq
      | cons q' l => cases hq; exact (List.pairwise_cons.mp s2).1 _ List.mem_cons_self) (by omega) rfl rfl f4 f5 f6
    refine ⟨y2, y3, y4, y5, y6, ?_⟩
    have hb : bindT (.tup [2, 3]) (.tup [.int p, dRw r]) [some (.dat C), some (.own (dRs acc)), x2, x3, x4, x5, x6] = some (envT C acc p r x4 x5 x6) := by
      unfold bindT envT
      simp [freeB_eq, h2, h3]
    rw [List.map_cons, enumD, forL, hb]
    dsimp only
    rw [t1, go_step]
    exact k
theorem s_told_rows {C : D} {R : List Rw} (S : Sq C (R.map dRw)) (hs : SmR 900000 R) (st : StR R) (al : ∀ r, r ∈ R → r.v = none → r.g = false) (hl : R.length ≤ 1000) : f_told_rows.sem [C] = .ok (.tup ((toldM R).map dRw)) [] := by
  have hB : BIG = 100000 := rfl
  obtain ⟨y2, y3, y4, y5, y6, k⟩ := to_loop S hs st al R 0 [] none none none none none rfl (fun r _ q hq => absurd hq List.not_mem_nil) (by simp; omega) rfl rfl rfl rfl rfl
  have e := evi_enum (G := g_told_rows) (i := 0) (env := [some (.dat C), some (.own []), none, none, none, none, none]) S.sq rfl
  have T : evS g_told_rows (.for_ (.tup [2, 3]) (.enum (.v 0)) bTO) [some (.dat C), some (.own []), none, none, none, none, none] = .nx [some (.dat C), some (.own (dRs (toldGo [] R))), y2, y3, y4, y5, y6] := by
    rw [evS, e]; exact k
  have e0 : b_told_rows = [.new 1 (.lst []), .for_ (.tup [2, 3]) (.enum (.v 0)) bTO, .ret (.blt .tuple [.v 1])] := rfl
  have fin : (toldM R).map dRw = dRs (toldGo [] R) := rfl
  rw [fin]
  show semB g_told_rows 7 none b_told_rows [C] = _
  unfold semB
  rw [e0]
  generalize dRs (toldGo [] R) = O at *
  generalize ST.for_ (.tup [2, 3]) (.enum (.v 0)) bTO = fo at *
  have tb (ds : List D) : bltD .tuple [.lst ds] = some (.tup ds) := rfl
  simp [evSs, evS, evs, evr, truR, startE, cellsF, cellF, evq_c, evq_v, evq_bin, evq_cmp, evq_chn, evq_and_, evq_or_, evq_not_, evq_neg, evq_ite, evq_tup, evq_lst, evq_ix, evq_blt, evq_isin, Mp.R.bind, Mp.R.take, Mp.R.toS, SR.seq, takeO, rdO, cellAt, content, truD, runF, outE, lift, evL, freeB_eq, T, tb]
end Mp
set_option maxHeartbeats 4000000
namespace Mp
open PySem L2
variable [TabsW] [GdW]
variable [TabsW] [GdW]
variable [TabsW] [GdW]
theorem rwD_inv : ∀ {d : D} {r : Rw}, rwD d = some r → d = dRw r := by
  intro d r h
  unfold rwD at h
  split at h
  · split at h
    · cases h
      rename_i s g hs
      show D.tup [.int s, .non, .bl g] = D.tup [.int ((s.toNat : Nat) : Int), .non, .bl g]
      rw [Int.toNat_of_nonneg hs]
    · cases h
  · split at h
    · cases h
      rename_i s v g hs
      show D.tup [.int s, .int v, .bl g] = D.tup [.int ((s.toNat : Nat) : Int), .int ((v.toNat : Nat) : Int), .bl g]
      rw [Int.toNat_of_nonneg hs.1, Int.toNat_of_nonneg hs.2]
    · cases h
  · cases h
theorem rowsD_inv : ∀ {l : List D} {R : List Rw}, rowsD l = some R → l = R.map dRw
  | [], R, h => by cases h; rfl
  | d :: l, R, h => by
    unfold rowsD at h
    cases h1 : rwD d with
    | none => rw [h1] at h; cases h
    | some r =>
      rw [h1] at h
      cases h2 : rowsD l with
      | none => rw [h2] at h; cases h
      | some R' =>
        rw [h2] at h
        cases h
        rw [rwD_inv h1, rowsD_inv h2]; rfl
theorem rwD_row (r : Rw) : rwD (dRw r) = some r := by
  obtain ⟨s, v, g⟩ := r
  cases v with
  | none =>
    show (if 0 ≤ (s : Int) then some (⟨(s : Int).toNat, none, g⟩ : Rw) else none) = _
    rw [if_pos (by omega)]; rfl
  | some v =>
    show (if 0 ≤ (s : Int) ∧ 0 ≤ (v : Int) then some (⟨(s : Int).toNat, some (v : Int).toNat, g⟩ : Rw) else none) = _
    rw [if_pos ⟨by omega, by omega⟩]; rfl
theorem rowsD_rows : ∀ R : List Rw, rowsD (R.map dRw) = some R
  | [] => rfl
  | r :: R => by
    rw [List.map_cons]
    unfold rowsD
    rw [rwD_row, rowsD_rows R]; rfl
theorem chain_iff : ∀ R : List Rw, chainB R = true ↔ ChainR R
  | [] => ⟨fun _ => trivial, fun _ => rfl⟩
  | [r] => by
    show (rightAlone r && endsRight r) = true ↔ (rightAlone r = true ∧ endsRight r = true)
    rw [Bool.and_eq_true]
  | r :: q :: R => by
    show (rightAlone r && rightBehind q r && chainB (q :: R)) = true ↔ (rightAlone r = true ∧ rightBehind q r = true ∧ ChainR (q :: R))
    rw [Bool.and_eq_true, Bool.and_eq_true, chain_iff (q :: R), and_assoc]
theorem let_inv {R : List Rw} (h : letR R = true) : Checked R ∧ R.length ≤ 1000 ∧ SmR 900000 R := by
  unfold letR at h
  rw [Bool.and_eq_true, Bool.and_eq_true, Bool.and_eq_true] at h
  obtain ⟨⟨⟨h1, h2⟩, h3⟩, h4⟩ := h
  refine ⟨checked_of ((chain_iff R).mp h1) ?_, of_decide_eq_true h3, fun r hr => of_decide_eq_true (List.all_eq_true.mp h4 r hr)⟩
  cases R with
  | nil => cases h2
  | cons r R => exact congrArg some (of_decide_eq_true h2)
theorem let_of {R : List Rw} (h : ChainR R) (z : R.head?.map (·.s) = some 0) (h3 : R.length ≤ 1000) (h4 : SmR 900000 R) : letR R = true := by
  unfold letR
  rw [(chain_iff R).mpr h, decide_eq_true h3, List.all_eq_true.mpr (fun r hr => decide_eq_true (h4 r hr))]
  cases R with
  | nil => cases z
  | cons r R => have z : r.s = 0 := Option.some.inj z
                show (true && decide (r.s = 0) && true && true) = true
                rw [decide_eq_true z]; rfl
theorem k_rows (R : List Rw) (h : letR R = true) : k_Rising.sem [.lst (R.map dRw)] = .ok .non [.tup ((toldM R).map dRw)] := by
  show (match rowsD (R.map dRw) with
      | some R => if letR R then FR.ok .non [.tup ((toldM R).map dRw)] else .bad
      | none => .bad) = _
  rw [rowsD_rows]
  exact if_pos h
theorem cri0 {a0 : IR} {env : Env} : ev g_Rising___init__ (.call 0 [a0]) env = (evs g_Rising___init__ [a0] env).bind fun ds e1 => runF e1 (f_is_listed.sem ds) := ev_call rfl rfl rfl
theorem cri1 {a0 : IR} {env : Env} : ev g_Rising___init__ (.call 1 [a0]) env = (evs g_Rising___init__ [a0] env).bind fun ds e1 => runF e1 (f_first_wrong.sem ds) := ev_call rfl rfl rfl
theorem cri2 {a0 : IR} {env : Env} : ev g_Rising___init__ (.call 2 [a0]) env = (evs g_Rising___init__ [a0] env).bind fun ds e1 => runF e1 (f_told_rows.sem ds) := ev_call rfl rfl rfl
theorem Sq.of {C : D} {l : List D} (h : seqD C = some l) : Sq C l := by
  cases C with
  | lst ds => cases h; exact Sq.l _
  | tup ds => cases h; exact Sq.t _
  | _ => cases h
theorem init_Rising : InitF g_Rising___init__ 2 b_Rising___init__ t_Rising___init__ k_Rising.sem := by
  intro v ds
  match ds with
  | [] => exact .inl rfl
  | _ :: _ :: _ => exact .inl rfl
  | [C] =>
    have F : k_Rising.sem [C] = (match seqD C with
      | some l => (match rowsD l with
        | some R => if letR R then FR.ok .non [.tup ((toldM R).map dRw)] else .bad
        | none => .bad)
      | none => .bad) := rfl
    cases h1 : seqD C with
    | none => rw [h1] at F; exact .inl F
    | some l =>
      rw [h1] at F
      dsimp only at F
      cases h2 : rowsD l with
      | none => rw [h2] at F; exact .inl F
      | some R =>
        rw [h2] at F
        dsimp only at F
        cases h3 : letR R with
        | false => rw [h3] at F; exact .inl F
        | true =>
          rw [h3, if_pos rfl] at F
          obtain ⟨ck, rl, sm⟩ := let_inv h3
          have S : Sq C (R.map dRw) := by have := Sq.of h1; rwa [rowsD_inv h2] at this
          have rep := (checked_good ck).1
          have q1 := S.li
          have q2 := s_first_wrong S ck
          have q3 := s_told_rows S sm rep.st rep.al rl
          have ln := S.ln
          rw [List.length_map] at ln
          have ne : R.length ≠ 0 := fun z => by
            have := rep.z
            rw [List.length_eq_zero_iff.mp z] at this; cases this
          have c1 := eq_zero R.length
          rw [beq_eq_false_iff_ne.mpr ne] at c1
          refine .inr (.inl ⟨[some (.dat (.raw v)), some (.dat C), some (.dat .non)], [.tup ((toldM R).map dRw)], [some (.dat (.raw v)), some (.dat C), some (.dat .non)], ?_, rfl, ?_, F⟩)
          · have n1 : cmpD .isnot .non .non = some false := rfl
            unfold b_Rising___init__ startI
            generalize (R.length : Int) = n at *
            simp [evSs, evS, evs, evr, truR, startE, cellsF, cellF, evq_c, evq_v, evq_bin, evq_cmp, evq_chn, evq_and_, evq_or_, evq_not_, evq_neg, evq_ite, evq_tup, evq_lst, evq_ix, evq_blt, evq_isin, Mp.R.bind, Mp.R.take, Mp.R.toS, SR.seq, takeO, rdO, cellAt, content, truD, runF, outE, lift, cri0, cri1, q1, q2, ln, c1, n1, bindT, freeB_eq]
          · unfold t_Rising___init__
            generalize (toldM R).map dRw = O at *
            simp [evSs, evS, evs, evr, truR, startE, cellsF, cellF, evq_c, evq_v, evq_bin, evq_cmp, evq_chn, evq_and_, evq_or_, evq_not_, evq_neg, evq_ite, evq_tup, evq_lst, evq_ix, evq_blt, evq_isin, Mp.R.bind, Mp.R.take, Mp.R.toS, SR.seq, takeO, rdO, cellAt, content, truD, runF, outE, lift, cri2, q3]
def dRi (R : List Rw) : D := .obj "Rising" ["rows"] [.tup (R.map dRw)]
theorem m_call {R : List Rw} {f : Nat → Option Nat} (h : RepF R f) (hl : R.length ≤ 10000) (m : Option Nat) : m_Rising___call__.sem [dRi R, dM m] = .ok (dM (m.bind f)) [] := by
  have q1 := s_nminute m
  have q2 := s_value_at (Sq.t (R.map dRw)) h hl m
  show semB g_Rising___call__ 2 none b_Rising___call__ [dRi R, dM m] = _
  unfold semB b_Rising___call__ dRi
  have cc : (Str.ofString "Rising") ∈ g_Rising___call__.cls := List.mem_cons_self
  generalize dM (m.bind f) = z at *
  generalize dM m = x at *
  generalize R.map dRw = O at *
  simp [evSs, evS, evs, evr, truR, startE, cellsF, cellF, evq_c, evq_v, evq_bin, evq_cmp, evq_chn, evq_and_, evq_or_, evq_not_, evq_neg, evq_ite, evq_tup, evq_lst, evq_ix, evq_blt, evq_isin, Mp.R.bind, Mp.R.take, Mp.R.toS, SR.seq, takeO, rdO, cellAt, content, truD, runF, outE, lift, cl_Rising___call___0, cl_Rising___call___1, q1, q2, evq_fld, cc, List.lookup]
/-- maps that are let, with the function that they tell -/
structure MapR (R : List Rw) (f : Nat → Option Nat) (B n : Nat) : Prop where
  rep : RepF R f
  good : Good f
  sm : SmR B R
  len : R.length ≤ n
end Mp
set_option maxHeartbeats 4000000
namespace Mp
open PySem L2
variable [TabsW] [GdW]
variable [TabsW] [GdW]
theorem bind_nm {E : Env} {i : Nat} {x : Option Cell} {d : D} (h : E[i]? = some x) (hx : frC x = true) : bindT (.name i) d E = some (E.set i (some (.dat d))) := by
  unfold bindT
  dsimp only
  rw [freeB_eq, h]
  exact if_pos hx
theorem x_app {G : Ctx} {i : Nat} {e : IR} {E E1 : Env} {d : D} {ds : List D} (h0 : ownB E i = true) (h : ev G e E = .ok (.val d) E1) (hi : E1[i]? = some (some (.own ds))) (hl : ds.length < BIG) : ev G (.app i e) E = .ok (.val .non) (E1.set i (some (.own (ds ++ [d])))) := by
  rw [evq_app, if_pos h0, take_okD h]
  show (match E1[i]? with
    | some (some (.own ds)) => if ds.length < BIG then R.ok (Opd.val .non) (E1.set i (some (.own (ds ++ [d])))) else .bad
    | _ => .bad) = _
  rw [hi]
  exact if_pos hl
end Mp
set_option maxHeartbeats 4000000
set_option maxHeartbeats 4000000
namespace Mp
open PySem L2
variable [TabsW] [GdW]
variable [TabsW] [GdW]
theorem t_expr_exc {G : Ctx} {e : IR} {E E1 : Env} {C f : Str} {d : D} (h : ev G e E = .exc C f d E1) : evS G (.expr e) E = .exc C f d E1 := by
  rw [evS, h]; rfl
end Mp
set_option maxHeartbeats 4000000
namespace Mp
open PySem L2
variable [TabsW] [GdW]
variable [TabsW] [GdW]
theorem x_neg {G : Ctx} {a : IR} {E E1 : Env} {i : Int} (h : ev G a E = .ok (.val (.int i)) E1) : ev G (.neg a) E = .ok (.val (.int (-i))) E1 := by
  rw [evq_neg, h]; rfl
theorem x_vo {G : Ctx} {i : Nat} {E : Env} {ds : List D} (h : E[i]? = some (some (.own ds))) : ev G (.v i) E = .ok (.pl i) E := by
  rw [evq_v]; unfold cellAt; rw [h]; rfl
theorem x_bin_pl {G : Ctx} {op : BOp} {a b : IR} {i : Nat} {E E1 E2 : Env} {c : Cell} {y z : D} (h : ev G a E = .ok (.pl i) E1) (h2 : ev G b E1 = .ok (.val y) E2) (hc : cellAt E2 i = some c) (h3 : binD op (content c) y = some z) : ev G (.bin op a b) E = .ok (.val z) E2 := by
  rw [evq_bin, h]
  show ((ev G b E1).bind fun y e2 => match rdO e2 (.pl i), rdO e2 y with
    | some p, some q => lift e2 (binD op p q)
    | _, _ => .bad) = _
  rw [h2]
  show (match (cellAt E2 i).map content, some y with
    | some p, some q => lift E2 (binD op p q)
    | _, _ => .bad) = _
  rw [hc]
  show lift E2 (binD op (content c) y) = _
  rw [h3]; rfl
theorem t_par {G : Ctx} {is : List Nat} {es : List IR} {E E1 E2 : Env} {ds : List D} (h : evs G es E = .ok ds E1) (hb : bindT (.tup is) (.tup ds) E1 = some E2) : evS G (.par is es) E = .nx E2 := by
  rw [evS, h]
  show (match bindT (.tup is) (.tup ds) E1 with
    | some e2 => SR.nx e2
    | none => .bad) = _
  rw [hb]
theorem sem_io {G : Ctx} {m : Nat} {b : List ST} {ds out : List D} {d : D} {e : Env} (h : evSs G b (startE (some 0) m ds) = .rt d e) (ho : e[0]? = some (some (.io out))) : semB G m (some 0) b ds = .ok d out := by
  rw [semB, h]
  show (match outE (some 0) e with
      | some out => FR.ok d out
      | none => .bad) = _
  have : outE (some 0) e = some out := by
    unfold outE
    dsimp only
    rw [ho]
  rw [this]
theorem eq_natD (a b : Nat) : cmpD .eq (.int (a : Int)) (.int (b : Int)) = some (a == b) := by
  have := cmp_dM (some a) (some b)
  rw [show (some a == some b) = (a == b) by simp] at this
  exact this
theorem mul_one_ (i : Int) : binD .mul (.int i) (.int 1) = some (.int i) := by
  have h : mulD (.int i) (.int 1) = some (.int (i * 1)) := by unfold mulD; exact if_pos (.inr (by decide))
  rw [Int.mul_one] at h
  exact h
theorem mul_zero_ (i : Int) : binD .mul (.int i) (.int 0) = some (.int ((0 : Nat) : Int)) := by
  have h : mulD (.int i) (.int 0) = some (.int (i * 0)) := by unfold mulD; exact if_pos (.inr (by decide))
  rw [Int.mul_zero] at h
  exact h
theorem evi_rng1 {G : Ctx} {e : IR} {E E1 : Env} {n : Nat} (h : ev G e E = .ok (.val (.int (n : Int))) E1) (hn : n ≤ 1000000) : evi G (.rng1 e) E = .ok ((List.range' 0 n).map fun k : Nat => D.int (k : Int)) E1 := by
  rw [← show iotaD ((0 : Nat) : Int) n = _ from iota_map' 0 n, evi, h]
  show (if -1000000 ≤ (n : Int) ∧ (n : Int) ≤ 1000000 then R.ok (iotaD 0 (n : Int).toNat) E1 else .bad) = _
  rw [if_pos (by omega), Int.toNat_natCast]
  rfl
theorem int_nat (a : Int) : bltD .int [.int a] = some (.int a) := rfl
def bRW : List ST := [.par [6, 7] [.cmp .eq (.call 0 [.v 0, .c (.int 2)]) (.c (.int 0)), .bin .add (.c (.int 1)) (.call 0 [.v 0, .c (.int 6)])], .if_ (.not_ (.v 6)) [.asg (.name 7) (.blt .min2 [.blt .int [.v 7], .blt .int [.bin .add (.bin .sub (.v 4) (.v 3)) (.c (.int 1))]])] [], .expr (.app 2 (.tup [.v 3, .v 4, .v 6])), .asg (.name 5) (.bin .add (.v 4) (.bin .mul (.bin .sub (.v 7) (.c (.int 1))) (.blt .int [.v 6]))), .asg (.name 3) (.bin .add (.v 3) (.v 7)), .asg (.name 4) (.bin .add (.blt .max2 [.blt .int [.v 5], .blt .int [.v 3]]) (.call 1 [.v 0, .lst [.c (.int 0), .c (.int 0), .c (.int 0), .c (.int 1), .c (.int 1), .c (.int 2), .c (.int 7)]]))]
def envRW (a b : Int) (x1 : Option Cell) (R : List Rw) (s v : Nat) (x5 x6 x7 : Option Cell) : Env := [some (.io (src a b)), x1, some (.own (R.map dRw)), some (.dat (.int s)), some (.dat (.int v)), x5, x6, x7]
theorem rw_turn (a b : Int) (x1 : Option Cell) (R : List Rw) (s v : Nat) (h : Drawn R s v) (hl : R.length < 100) (x5 x6 x7 : Option Cell) (h5 : frC x5 = true) (h6 : frC x6 = true) (h7 : frC x7 = true) :
    ∃ a' b' g many w y5 y6 y7, frC y5 = true ∧ frC y6 = true ∧ frC y7 = true ∧ many ≤ 6 ∧ Drawn (R ++ [⟨s, some v, g⟩]) (s + many) w ∧ evSs g__law_rows bRW (envRW a b x1 R s v x5 x6 x7) = .nx (envRW a' b' x1 (R ++ [⟨s, some v, g⟩]) (s + many) w y5 y6 y7) := by
  have hB : BIG = 100000 := rfl
  have sv := h.sv
  obtain ⟨u, a1, b1, hu, c1⟩ := s_take a b 2 (by decide) (by decide)
  obtain ⟨t, a2, b2, ht, c2⟩ := s_take a1 b1 6 (by decide) (by decide)
  obtain ⟨k, a3, b3, hk, c3⟩ := s_oneN a2 b2 [0, 0, 0, 1, 1, 2, 7] (by decide) (by decide)
  obtain ⟨g, hg⟩ : ∃ g, (u == 0) = g := ⟨_, rfl⟩
  obtain ⟨many, hm⟩ : ∃ many, (if g then 1 + t else min (1 + t) (v - s + 1)) = many := ⟨_, rfl⟩
  have hm1 : 1 ≤ many := by rw [← hm]; split <;> omega
  have hm6 : many ≤ 6 := by rw [← hm]; split <;> omega
  have hmg : g = false → many ≤ v - s + 1 := fun e => by rw [← hm, e]; exact Nat.min_le_right _ _
  have T1 : evS g__law_rows (.par [6, 7] [.cmp .eq (.call 0 [.v 0, .c (.int 2)]) (.c (.int 0)), .bin .add (.c (.int 1)) (.call 0 [.v 0, .c (.int 6)])]) (envRW a b x1 R s v x5 x6 x7) = .nx (envRW a2 b2 x1 R s v x5 (some (.dat (.bl g))) (some (.dat (.int ((1 + t : Nat) : Int))))) := by
    refine t_par (evs2 (x_cmp (io_call (env := envRW a b x1 R s v x5 x6 x7) rfl rfl rfl rfl (evs1 x_c) rfl c1) x_c (eq_natD u 0)) (x_bin x_c (io_call (env := envRW a1 b1 x1 R s v x5 x6 x7) rfl rfl rfl rfl (evs1 x_c) rfl c2) (show binD .add (.int 1) (.int (t : Int)) = some (.int ((1 + t : Nat) : Int)) by show some (D.int (1 + (t : Int))) = _; congr 2))) ?_
    rw [hg]
    unfold bindT envRW
    simp [freeB_eq, h6, h7]
  have T2 : evS g__law_rows (.if_ (.not_ (.v 6)) [.asg (.name 7) (.blt .min2 [.blt .int [.v 7], .blt .int [.bin .add (.bin .sub (.v 4) (.v 3)) (.c (.int 1))]])] []) (envRW a2 b2 x1 R s v x5 (some (.dat (.bl g))) (some (.dat (.int ((1 + t : Nat) : Int))))) = .nx (envRW a2 b2 x1 R s v x5 (some (.dat (.bl g))) (some (.dat (.int (many : Int))))) := by
    cases g with
    | true =>
      have : 1 + t = many := hm
      rw [this]
      exact t_if_f0 (x_notb (b := true) (x_v rfl))
    | false =>
      have : min (1 + t) (v - s + 1) = many := hm
      rw [← this]
      exact (t_if_t (x_notb (b := false) (x_v rfl)) rfl).trans ((ss_nx (t_asg (x_blt2 (x_blt1 (x_v rfl) (int_nat _)) (x_blt1 (x_bin (x_bin (x_v rfl) (x_v rfl) (sub_nat sv)) x_c (add_1 (v - s))) (int_nat _)) (min_nat (1 + t) (v - s + 1))) rfl)).trans ss0)
  have T3 : evS g__law_rows (.expr (.app 2 (.tup [.v 3, .v 4, .v 6]))) (envRW a2 b2 x1 R s v x5 (some (.dat (.bl g))) (some (.dat (.int (many : Int))))) = .nx (envRW a2 b2 x1 (R ++ [⟨s, some v, g⟩]) s v x5 (some (.dat (.bl g))) (some (.dat (.int (many : Int))))) := by
    refine (t_expr (x_app rfl (x_tup (evs3 (x_v rfl) (x_v rfl) (x_v rfl)) (by simp; omega)) rfl (by rw [List.length_map]; omega))).trans ?_
    show SR.nx _ = SR.nx _
    unfold envRW
    rw [List.map_append]
    rfl
  obtain ⟨ah, ha⟩ : ∃ ah, (if g then v + (many - 1) else v) = ah := ⟨_, rfl⟩
  have T4 : evS g__law_rows (.asg (.name 5) (.bin .add (.v 4) (.bin .mul (.bin .sub (.v 7) (.c (.int 1))) (.blt .int [.v 6])))) (envRW a2 b2 x1 (R ++ [⟨s, some v, g⟩]) s v x5 (some (.dat (.bl g))) (some (.dat (.int (many : Int))))) = .nx (envRW a2 b2 x1 (R ++ [⟨s, some v, g⟩]) s v (some (.dat (.int (ah : Int)))) (some (.dat (.bl g))) (some (.dat (.int (many : Int))))) := by
    rw [← ha]
    cases g with
    | true =>
      have ml : binD .mul (.int ((many - 1 : Nat) : Int)) (.int 1) = some (.int ((many - 1 : Nat) : Int)) := mul_one_ _
      exact t_asg (x_bin (x_v rfl) (x_bin (x_bin (x_v rfl) x_c (sub_1 hm1)) (x_blt1 (x_v rfl) (show bltD .int [.bl true] = some (.int 1) from rfl)) ml) (add_nat v (many - 1))) (bind_nm (x := x5) rfl h5)
    | false =>
      have ml : binD .mul (.int ((many - 1 : Nat) : Int)) (.int 0) = some (.int ((0 : Nat) : Int)) := mul_zero_ _
      exact t_asg (x_bin (x_v rfl) (x_bin (x_bin (x_v rfl) x_c (sub_1 hm1)) (x_blt1 (x_v rfl) (show bltD .int [.bl false] = some (.int 0) from rfl)) ml) (add_nat v 0)) (bind_nm (x := x5) rfl h5)
  have T5 : evS g__law_rows (.asg (.name 3) (.bin .add (.v 3) (.v 7))) (envRW a2 b2 x1 (R ++ [⟨s, some v, g⟩]) s v (some (.dat (.int (ah : Int)))) (some (.dat (.bl g))) (some (.dat (.int (many : Int))))) = .nx (envRW a2 b2 x1 (R ++ [⟨s, some v, g⟩]) (s + many) v (some (.dat (.int (ah : Int)))) (some (.dat (.bl g))) (some (.dat (.int (many : Int))))) := t_asg (x_bin (x_v rfl) (x_v rfl) (add_nat s many)) rfl
  have T6 : evS g__law_rows (.asg (.name 4) (.bin .add (.blt .max2 [.blt .int [.v 5], .blt .int [.v 3]]) (.call 1 [.v 0, .lst [.c (.int 0), .c (.int 0), .c (.int 0), .c (.int 1), .c (.int 1), .c (.int 2), .c (.int 7)]]))) (envRW a2 b2 x1 (R ++ [⟨s, some v, g⟩]) (s + many) v (some (.dat (.int (ah : Int)))) (some (.dat (.bl g))) (some (.dat (.int (many : Int))))) = .nx (envRW a3 b3 x1 (R ++ [⟨s, some v, g⟩]) (s + many) (max ah (s + many) + k) (some (.dat (.int (ah : Int)))) (some (.dat (.bl g))) (some (.dat (.int (many : Int))))) :=
    t_asg (x_bin (x_blt2 (x_blt1 (x_v rfl) (int_nat _)) (x_blt1 (x_v rfl) (int_nat _)) (max_nat ah (s + many))) (io_call (env := envRW a2 b2 x1 (R ++ [⟨s, some v, g⟩]) (s + many) v (some (.dat (.int (ah : Int)))) (some (.dat (.bl g))) (some (.dat (.int (many : Int))))) rfl rfl rfl rfl (evs1 (x_lst (evs_cons x_c (evs_cons x_c (evs_cons x_c (evs_cons x_c (evs3 x_c x_c x_c))))) (by simp; omega))) rfl c3) (add_nat (max ah (s + many)) k)) rfl
  refine ⟨a3, b3, g, many, max ah (s + many) + k, some (.dat (.int (ah : Int))), some (.dat (.bl g)), some (.dat (.int (many : Int))), rfl, rfl, rfl, hm6, h.more g many _ hm1 hmg (by rw [ha]; omega) (by omega), ?_⟩
  exact (ss_nx T1).trans ((ss_nx T2).trans ((ss_nx T3).trans ((ss_nx T4).trans ((ss_nx T5).trans ((ss_nx T6).trans ss0)))))
theorem rw_loop : ∀ (ds : List D) (a b : Int) (x1 : Option Cell) (R : List Rw) (s v : Nat) (x5 x6 x7 : Option Cell), Drawn R s v → R.length + ds.length ≤ 5 → s ≤ 6 * R.length → SmR 100 R → frC x1 = true → frC x5 = true → frC x6 = true → frC x7 = true →
    ∃ a' b' y1 R' s' v' y5 y6 y7, Drawn R' s' v' ∧ R'.length ≤ 5 ∧ s' ≤ 30 ∧ SmR 100 R' ∧ forL (.name 1) (fun e => evSs g__law_rows bRW e) ds (envRW a b x1 R s v x5 x6 x7) = .nx (envRW a' b' y1 R' s' v' y5 y6 y7)
  | [], a, b, x1, R, s, v, x5, x6, x7, h, hl, hs, hm, _, _, _, _ => ⟨a, b, x1, R, s, v, x5, x6, x7, h, by simpa using hl, by simp at hl; omega, hm, rfl⟩
  | d :: ds, a, b, x1, R, s, v, x5, x6, x7, h, hl, hs, hm, h1, h5, h6, h7 => by
    simp only [List.length_cons] at hl
    obtain ⟨a1, b1, g, many, w, y5, y6, y7, k5, k6, k7, km, kd, t⟩ := rw_turn a b (some (.dat d)) R s v h (by omega) x5 x6 x7 h5 h6 h7
    obtain ⟨a', b', z1, R', s', v', z5, z6, z7, i1, i2, i3, i4, i5⟩ := rw_loop ds a1 b1 (some (.dat d)) (R ++ [⟨s, some v, g⟩]) (s + many) w y5 y6 y7 kd (by simp; omega) (by simp; omega) (fun r hr => by
      rcases List.mem_append.mp hr with hr | hr
      · exact hm r hr
      · rw [List.mem_singleton.mp hr]; show s ≤ 100; omega) rfl k5 k6 k7
    refine ⟨a', b', z1, R', s', v', z5, z6, z7, i1, i2, i3, i4, ?_⟩
    rw [forL, bind_nm (x := x1) rfl h1]
    dsimp only
    rw [show (envRW a b x1 R s v x5 x6 x7).set 1 (some (.dat d)) = envRW a b (some (.dat d)) R s v x5 x6 x7 from rfl, t]
    exact i5
theorem s_lvalue {R : List Rw} (h : RepF R (val R)) (hl : R.length ≤ 10000) (t : Nat) : f__law_value.sem [.lst (R.map dRw), .int t] = .ok (dM (val R t)) [] := by
  have hB : BIG = 100000 := rfl
  obtain ⟨r, hr, hv, hrt, hmem⟩ := last_at_ h t
  have L := ev_lc_filt (G := g__law_value) (i := 3) (it := .seq (.v 0)) (t := .cmp .le (.ix (.v 3) (.c (.int 0))) (.v 1)) (e := .v 3) (env := [some (.dat (.lst (R.map dRw))), some (.dat (.int t)), none, none]) (env0 := [some (.dat (.lst (R.map dRw))), some (.dat (.int t)), none, none]) (l := R) (f := dRw) (g := dRw) (fun r => decide (r.s ≤ t)) rfl (by omega) rfl (by simp) (fun q hq => tru_valB (x_cmp (x_ix (x_v rfl) x_c (row_s q)) (x_v rfl) (le_nat q.s t)) rfl) (fun q hq _ => rfl)
  have ix : ixD (.lst ((R.filter fun r => decide (r.s ≤ t)).map dRw)) (.int (-1)) = some (dRw r) := by
    show atI _ _ = _
    rw [last_at _ (by
      intro z
      rw [List.map_eq_nil_iff] at z
      rw [z] at hr; cases hr), List.getLast?_map, hr]
    rfl
  have T1 : evS g__law_value (.asg (.name 2) (.ix (.lc (.name 3) (.seq (.v 0)) (some (.cmp .le (.ix (.v 3) (.c (.int 0))) (.v 1))) (.v 3) [3]) (.neg (.c (.int 1))))) [some (.dat (.lst (R.map dRw))), some (.dat (.int t)), none, none] = .nx [some (.dat (.lst (R.map dRw))), some (.dat (.int t)), some (.dat (dRw r)), none] := t_asg (x_ix L (x_neg x_c) ix) rfl
  have al := h.al r hmem
  show semB g__law_value 4 none b__law_value [.lst (R.map dRw), .int t] = _
  refine sem_rt (e := [some (.dat (.lst (R.map dRw))), some (.dat (.int t)), some (.dat (dRw r)), none]) ?_
  refine (ss_nx T1).trans ?_
  rw [hv]
  have I1 : ev g__law_value (.ix (.v 2) (.c (.int 1))) [some (.dat (.lst (R.map dRw))), some (.dat (.int t)), some (.dat (dRw r)), none] = .ok (.val (dM r.v)) [some (.dat (.lst (R.map dRw))), some (.dat (.int t)), some (.dat (dRw r)), none] := x_ix (x_v rfl) x_c (row_v r)
  have gv : giv r t = r.v.map fun v => if r.g then v + (t - r.s) else v := giv_part rfl hrt
  rw [gv]
  cases hw : r.v with
  | none =>
    rw [hw] at I1
    exact ss_rt ((t_if_t (x_cmp I1 x_c (show cmpD .is_ .non .non = some true from rfl)) rfl).trans (ss_rt (t_ret x_c)))
  | some v =>
    rw [hw] at I1
    refine (ss_nx (t_if_f0 (x_cmp I1 x_c (show cmpD .is_ (.int (v : Int)) .non = some false from rfl)))).trans (ss_rt (t_ret ?_))
    have S1 : ev g__law_value (.bin .sub (.v 1) (.ix (.v 2) (.c (.int 0)))) [some (.dat (.lst (R.map dRw))), some (.dat (.int t)), some (.dat (dRw r)), none] = .ok (.val (.int ((t - r.s : Nat) : Int))) [some (.dat (.lst (R.map dRw))), some (.dat (.int t)), some (.dat (dRw r)), none] := x_bin (x_v rfl) (x_ix (x_v rfl) x_c (row_s r)) (sub_nat hrt)
    have G1 : ev g__law_value (.blt .int [.ix (.v 2) (.c (.int 2))]) [some (.dat (.lst (R.map dRw))), some (.dat (.int t)), some (.dat (dRw r)), none] = .ok (.val (.int (if r.g then 1 else 0))) [some (.dat (.lst (R.map dRw))), some (.dat (.int t)), some (.dat (dRw r)), none] := x_blt1 (x_ix (x_v rfl) x_c (row_g r)) rfl
    cases hg : r.g with
    | true =>
      rw [hg] at G1
      have ml : binD .mul (.int ((t - r.s : Nat) : Int)) (.int 1) = some (.int ((t - r.s : Nat) : Int)) := mul_one_ _
      exact x_bin I1 (x_bin S1 G1 ml) (add_nat v (t - r.s))
    | false =>
      rw [hg] at G1
      have ml : binD .mul (.int ((t - r.s : Nat) : Int)) (.int 0) = some (.int ((0 : Nat) : Int)) := mul_zero_ _
      exact x_bin I1 (x_bin S1 G1 ml) (add_nat v 0)
end Mp
set_option maxHeartbeats 4000000
namespace Mp
open PySem L2
variable [TabsW] [GdW]
variable [TabsW] [GdW]
theorem RepF.self {S : List Rw} {f : Nat → Option Nat} (h : RepF S f) : RepF S (val S) := ⟨h.st, h.z, h.al, fun _ => rfl⟩
def stsM (R S : List Rw) : List Nat := setN (R.map (·.s) ++ S.map (·.s))
theorem s_all_starts2 {C1 C2 : D} {R S : List Rw} (S1 : Sq C1 (R.map dRw)) (S2 : Sq C2 (S.map dRw)) (h1 : R.length ≤ 27) (h2 : S.length ≤ 27) : f_all_starts.sem [.lst [C1, C2]] = .ok (.lst (dNs (stsM R S))) [] := by
  have hB : BIG = 100000 := rfl
  have hs := sset_nat (R.map (·.s) ++ S.map (·.s)) (by rw [List.length_append, List.length_map, List.length_map]; omega)
  have L : ev g_all_starts (.lc2 (.name 1) (.seq (.v 0)) (.name 2) (.seq (.v 1)) none (.blt .int [.ix (.v 2) (.c (.int 0))]) [1, 2] [2]) [some (.dat (.lst [C1, C2])), none, none] = .ok (.val (.lst ((R.map (·.s) ++ S.map (·.s)).map fun n : Nat => D.int (n : Int)))) [some (.dat (.lst [C1, C2])), none, none] := by
    have := ev_lc2_typ (G := g_all_starts) (own := [1, 2]) (own1 := [2]) (tg := .name 1) (tg1 := .name 2) (it := .seq (.v 0)) (it1 := .seq (.v 1)) (t := none) (e := .blt .int [.ix (.v 2) (.c (.int 0))]) (env := [some (.dat (.lst [C1, C2])), none, none]) (env0 := [some (.dat (.lst [C1, C2])), none, none]) (l := [(C1, R), (C2, S)]) (F := fun p => p.1) (X := fun p => (p.2.filter fun _ => true).map fun r : Rw => D.int (r.s : Nat)) (fun p => [some (.dat (.lst [C1, C2])), some (.dat p.1), none]) rfl (by simp) rfl rfl rfl rfl fun p hp => by
      have Sp : Sq p.1 (p.2.map dRw) ∧ p.2.length ≤ 27 := by
        rcases List.mem_cons.mp hp with rfl | hp
        · exact ⟨S1, h1⟩
        · rw [List.mem_singleton.mp hp]; exact ⟨S2, h2⟩
      refine ⟨rfl, p.2.map dRw, evi_seq Sp.1.sq rfl, by rw [List.length_map]; omega, ?_⟩
      obtain ⟨env', e1, e2⟩ := lcLoop_typ (own := [2]) (tg := .name 2) (T := tsF g_all_starts none) (E := fun x => (ev g_all_starts (.blt .int [.ix (.v 2) (.c (.int 0))]) x).take) (base := [some (.dat (.lst [C1, C2])), some (.dat p.1), none]) (f := dRw) (g := fun r : Rw => D.int (r.s : Nat)) (p := fun _ => true) (st := fun r => [some (.dat (.lst [C1, C2])), some (.dat p.1), some (.dat (dRw r))]) p.2 [some (.dat (.lst [C1, C2])), some (.dat p.1), none] rfl fun r _ => ⟨rfl, rfl, rfl, fun _ => rfl⟩
      refine ⟨env', e1, ?_⟩
      have w := (wipe_wipe (is := [2]) (own := [1, 2]) (fun j hj => List.mem_cons_of_mem _ hj) env' []).1
      exact w.symm.trans (by rw [e2]; rfl)
    rw [this]
    congr 3
    simp only [List.flatMap_cons, List.flatMap_nil, List.append_nil, List.map_append, List.map_map]
    rw [List.filter_eq_self.mpr (fun _ _ => rfl), List.filter_eq_self.mpr (fun _ _ => rfl)]
    rfl
  show semB g_all_starts 3 none b_all_starts [.lst [C1, C2]] = _
  unfold semB b_all_starts stsM
  generalize (R.map (·.s) ++ S.map (·.s)).map (fun n : Nat => D.int (n : Int)) = X at *
  generalize dNs (setN (R.map (·.s) ++ S.map (·.s))) = Y at *
  generalize D.lst [C1, C2] = Z at *
  simp [evSs, evS, evs, evr, truR, startE, cellsF, cellF, evq_c, evq_v, evq_bin, evq_cmp, evq_chn, evq_and_, evq_or_, evq_not_, evq_neg, evq_ite, evq_tup, evq_lst, evq_ix, evq_blt, evq_isin, Mp.R.bind, Mp.R.take, Mp.R.toS, SR.seq, takeO, rdO, cellAt, content, truD, runF, outE, lift, L, hs]
theorem s_parts_at2 {C1 C2 : D} {R S : List Rw} {f g : Nat → Option Nat} (S1 : Sq C1 (R.map dRw)) (S2 : Sq C2 (S.map dRw)) (hR : RepF R f) (hS : RepF S g) (h1 : R.length ≤ 27) (h2 : S.length ≤ 27) (s : Nat) : f_parts_at.sem [.lst [C1, C2], .int s] = .ok (.lst [dRw (partM R s), dRw (partM S s)]) [] := by
  have hB : BIG = 100000 := rfl
  have h3b : 3 ≤ BIG := by omega
  have one : ∀ (C : D) (T : List Rw) (k : Nat → Option Nat), Sq C (T.map dRw) → RepF T k → T.length ≤ 27 → (ev g_parts_at (.tup [.v 1, .call 0 [.v 2, .v 1], .ix (.ix (.v 2) (.call 1 [.v 2, .v 1])) (.c (.int 2))]) [some (.dat (.lst [C1, C2])), some (.dat (.int s)), some (.dat C)]).take = .ok (dRw (partM T s)) [some (.dat (.lst [C1, C2])), some (.dat (.int s)), some (.dat C)] := fun C T k SC hT hl => by
    have q1 := s_value_at SC hT.self (by omega) (some s)
    have q2 := s_place_at SC hT.self (by omega) s
    have lt := place_lt hT s
    have hr : T[placeM T s]? = some T[placeM T s] := List.getElem?_eq_getElem lt
    have q3 := row_at SC hr
    have q4 := row_g T[placeM T s]
    have e : dRw (partM T s) = .tup [.int (s : Nat), dM (val T s), .bl T[placeM T s].g] := by
      have gr : grow T s = T[placeM T s].g := by unfold grow; rw [hr]; rfl
      show D.tup [.int (s : Nat), dM (val T s), .bl (grow T s)] = _
      rw [gr]
    have q1 : f_value_at.sem [C, .int (s : Nat)] = .ok (dM (val T s)) [] := q1
    rw [e]
    generalize dM (val T s) = z at *
    generalize dRw T[placeM T s] = d at *
    generalize T[placeM T s].g = b at *
    generalize ((placeM T s : Nat) : Int) = pm at *
    generalize D.lst [C1, C2] = Z at *
    simp [evSs, evS, evs, evr, truR, startE, cellsF, cellF, evq_c, evq_v, evq_bin, evq_cmp, evq_chn, evq_and_, evq_or_, evq_not_, evq_neg, evq_ite, evq_tup, evq_lst, evq_ix, evq_blt, evq_isin, Mp.R.bind, Mp.R.take, Mp.R.toS, SR.seq, takeO, rdO, cellAt, content, truD, runF, outE, lift, cl_parts_at_0, cl_parts_at_1, q1, q2, q3, q4, h3b]
  have L : ev g_parts_at (.lc (.name 2) (.seq (.v 0)) none (.tup [.v 1, .call 0 [.v 2, .v 1], .ix (.ix (.v 2) (.call 1 [.v 2, .v 1])) (.c (.int 2))]) [2]) [some (.dat (.lst [C1, C2])), some (.dat (.int s)), none] = .ok (.val (.lst [dRw (partM R s), dRw (partM S s)])) [some (.dat (.lst [C1, C2])), some (.dat (.int s)), none] :=
    ev_lc_map (G := g_parts_at) (i := 2) (it := .seq (.v 0)) (e := .tup [.v 1, .call 0 [.v 2, .v 1], .ix (.ix (.v 2) (.call 1 [.v 2, .v 1])) (.c (.int 2))]) (env := [some (.dat (.lst [C1, C2])), some (.dat (.int s)), none]) (env0 := [some (.dat (.lst [C1, C2])), some (.dat (.int s)), none]) (l := [(C1, R), (C2, S)]) (f := fun p => p.1) (g := fun p => dRw (partM p.2 s)) rfl (by simp; omega) rfl (Nat.lt_succ_self 2) fun p hp => by
      rcases List.mem_cons.mp hp with rfl | hp
      · exact one C1 R f S1 hR h1
      · rw [List.mem_singleton.mp hp]; exact one C2 S g S2 hS h2
  show semB g_parts_at 3 none b_parts_at [.lst [C1, C2], .int s] = _
  unfold semB b_parts_at
  generalize [dRw (partM R s), dRw (partM S s)] = X at *
  generalize D.lst [C1, C2] = Z at *
  simp [evSs, evS, evs, evr, truR, startE, cellsF, cellF, evq_c, evq_v, evq_bin, evq_cmp, evq_chn, evq_and_, evq_or_, evq_not_, evq_neg, evq_ite, evq_tup, evq_lst, evq_ix, evq_blt, evq_isin, Mp.R.bind, Mp.R.take, Mp.R.toS, SR.seq, takeO, rdO, cellAt, content, truD, runF, outE, lift, L]
end Mp
set_option maxHeartbeats 4000000
namespace Mp
open PySem L2
variable [TabsW] [GdW]
variable [TabsW] [GdW]
theorem s_part_over (p q : Rw) (e : Option Nat) (hs : q.s = p.s) (ha : p.v = none → p.g = false) : f_part_over.sem [dRw p, dRw q, dM e] = .ok (dM (pover p q e)) [] := by
  obtain ⟨s, v, g⟩ := p
  obtain ⟨s', b, h⟩ := q
  have hs : s' = s := hs
  subst hs
  have ql := s_is_less b v
  show semB g_part_over 10 none b_part_over [.tup [.int (s' : Nat), dM v, .bl g], .tup [.int (s' : Nat), dM b, .bl h], dM e] = _
  unfold semB b_part_over
  cases hl : ltM b v with
  | true =>
    have e1 : pover ⟨s', v, g⟩ ⟨s', b, h⟩ e = some s' := by unfold pover; rw [if_pos hl]
    rw [e1]
    rw [hl] at ql
    show _ = FR.ok (.int (s' : Nat)) []
    generalize dM v = vv at *
    generalize dM b = bb at *
    generalize dM e = ee at *
    simp [evSs, evS, evs, evr, truR, startE, cellsF, cellF, evq_c, evq_v, evq_bin, evq_cmp, evq_chn, evq_and_, evq_or_, evq_not_, evq_neg, evq_ite, evq_tup, evq_lst, evq_ix, evq_blt, evq_isin, Mp.R.bind, Mp.R.take, Mp.R.toS, SR.seq, takeO, rdO, cellAt, content, truD, runF, outE, lift, bindT, freeB_eq, cl_part_over_0, ql]
  | false =>
    have hne : ¬ ltM b v = true := by rw [hl]; decide
    rw [hl] at ql
    have nn : ∀ (g h : Bool), (g = false ∨ h = true ∨ b = none) → pover ⟨s', v, g⟩ ⟨s', b, h⟩ e = none := fun g h z => by
      unfold pover
      rw [if_neg hne]
      rcases z with z | z | z
      · subst z; rfl
      · subst z; cases g <;> rfl
      · subst z; cases g <;> cases h <;> cases v <;> rfl
    cases g with
    | false =>
      rw [nn false h (.inl rfl)]
      show _ = FR.ok D.non []
      generalize dM v = vv at *
      generalize dM b = bb at *
      generalize dM e = ee at *
      simp [evSs, evS, evs, evr, truR, startE, cellsF, cellF, evq_c, evq_v, evq_bin, evq_cmp, evq_chn, evq_and_, evq_or_, evq_not_, evq_neg, evq_ite, evq_tup, evq_lst, evq_ix, evq_blt, evq_isin, Mp.R.bind, Mp.R.take, Mp.R.toS, SR.seq, takeO, rdO, cellAt, content, truD, runF, outE, lift, bindT, freeB_eq, cl_part_over_0, ql]
    | true =>
      cases h with
      | true =>
        rw [nn true true (.inr (.inl rfl))]
        show _ = FR.ok D.non []
        generalize dM v = vv at *
        generalize dM b = bb at *
        generalize dM e = ee at *
        simp [evSs, evS, evs, evr, truR, startE, cellsF, cellF, evq_c, evq_v, evq_bin, evq_cmp, evq_chn, evq_and_, evq_or_, evq_not_, evq_neg, evq_ite, evq_tup, evq_lst, evq_ix, evq_blt, evq_isin, Mp.R.bind, Mp.R.take, Mp.R.toS, SR.seq, takeO, rdO, cellAt, content, truD, runF, outE, lift, bindT, freeB_eq, cl_part_over_0, ql]
      | false =>
        cases b with
        | none =>
          rw [nn true false (.inr (.inr rfl))]
          show _ = FR.ok D.non []
          have ci : cmpD .is_ (dM none) .non = some true := rfl
          generalize dM v = vv at *
          generalize dM none = bb at *
          generalize dM e = ee at *
          simp [evSs, evS, evs, evr, truR, startE, cellsF, cellF, evq_c, evq_v, evq_bin, evq_cmp, evq_chn, evq_and_, evq_or_, evq_not_, evq_neg, evq_ite, evq_tup, evq_lst, evq_ix, evq_blt, evq_isin, Mp.R.bind, Mp.R.take, Mp.R.toS, SR.seq, takeO, rdO, cellAt, content, truD, runF, outE, lift, bindT, freeB_eq, cl_part_over_0, ql, ci]
        | some b =>
          cases v with
          | none => exact absurd (ha rfl) (fun z => Bool.noConfusion z)
          | some v =>
            have hv : v ≤ b := by
              rw [ltM_some] at hl
              exact Nat.le_of_not_lt (of_decide_eq_false hl)
            have ci : cmpD .is_ (.int (b : Int)) .non = some false := rfl
            have a1 := add_nat s' b
            have a2 := sub_nat (a := s' + b) (b := v) (by omega)
            have a3 := add_1 (s' + b - v)
            have ql : f_is_less.sem [.int (b : Int), .int (v : Int)] = .ok (.bl false) [] := ql
            cases e with
            | none =>
              have e1 : pover ⟨s', some v, true⟩ ⟨s', some b, false⟩ none = some (s' + b - v + 1) := by unfold pover; rw [if_neg hne]
              rw [e1]
              show _ = FR.ok (.int ((s' + b - v + 1 : Nat) : Int)) []
              have cn : cmpD .is_ .non .non = some true := rfl
              generalize ((s' + b - v + 1 : Nat) : Int) = m1 at *
              generalize ((s' + b - v : Nat) : Int) = m0 at *
              generalize ((s' + b : Nat) : Int) = mb at *
              simp [evSs, evS, evs, evr, truR, startE, cellsF, cellF, evq_c, evq_v, evq_bin, evq_cmp, evq_chn, evq_and_, evq_or_, evq_not_, evq_neg, evq_ite, evq_tup, evq_lst, evq_ix, evq_blt, evq_isin, Mp.R.bind, Mp.R.take, Mp.R.toS, SR.seq, takeO, rdO, cellAt, content, truD, runF, outE, lift, bindT, freeB_eq, cl_part_over_0, ql, ci, a1, a2, a3, cn, dM]
            | some e =>
              have cn : cmpD .is_ (.int (e : Int)) .non = some false := rfl
              have c2 := lt_nat (s' + b - v + 1) e
              by_cases h3 : s' + b - v + 1 < e
              · have e1 : pover ⟨s', some v, true⟩ ⟨s', some b, false⟩ (some e) = some (s' + b - v + 1) := by unfold pover; rw [if_neg hne]; exact if_pos h3
                rw [e1]
                rw [decide_eq_true h3] at c2
                show _ = FR.ok (.int ((s' + b - v + 1 : Nat) : Int)) []
                generalize ((s' + b - v + 1 : Nat) : Int) = m1 at *
                generalize ((s' + b - v : Nat) : Int) = m0 at *
                generalize ((s' + b : Nat) : Int) = mb at *
                simp [evSs, evS, evs, evr, truR, startE, cellsF, cellF, evq_c, evq_v, evq_bin, evq_cmp, evq_chn, evq_and_, evq_or_, evq_not_, evq_neg, evq_ite, evq_tup, evq_lst, evq_ix, evq_blt, evq_isin, Mp.R.bind, Mp.R.take, Mp.R.toS, SR.seq, takeO, rdO, cellAt, content, truD, runF, outE, lift, bindT, freeB_eq, cl_part_over_0, ql, ci, a1, a2, a3, cn, c2, dM]
              · have e1 : pover ⟨s', some v, true⟩ ⟨s', some b, false⟩ (some e) = none := by unfold pover; rw [if_neg hne]; exact if_neg h3
                rw [e1]
                rw [decide_eq_false h3] at c2
                show _ = FR.ok D.non []
                generalize ((s' + b - v + 1 : Nat) : Int) = m1 at *
                generalize ((s' + b - v : Nat) : Int) = m0 at *
                generalize ((s' + b : Nat) : Int) = mb at *
                simp [evSs, evS, evs, evr, truR, startE, cellsF, cellF, evq_c, evq_v, evq_bin, evq_cmp, evq_chn, evq_and_, evq_or_, evq_not_, evq_neg, evq_ite, evq_tup, evq_lst, evq_ix, evq_blt, evq_isin, Mp.R.bind, Mp.R.take, Mp.R.toS, SR.seq, takeO, rdO, cellAt, content, truD, runF, outE, lift, bindT, freeB_eq, cl_part_over_0, ql, ci, a1, a2, a3, cn, c2, dM]
end Mp
set_option maxHeartbeats 4000000
namespace Mp
open PySem L2
variable [TabsW] [GdW]
variable [TabsW] [GdW]
def bFO : List ST := [.asg (.name 5) (.ite (.cmp .lt (.bin .add (.v 3) (.c (.int 1))) (.blt .len [.v 2])) (.ix (.v 2) (.bin .add (.v 3) (.c (.int 1)))) (.c .non)), .asg (.tup [7, 8]) (.call 1 [.lst [.v 0, .v 1], .v 4]), .asg (.name 6) (.call 2 [.v 7, .v 8, .v 5]), .if_ (.cmp .isnot (.v 6) (.c .non)) [.ret (.v 6)] []]
def envO (C1 C2 : D) (L : List Nat) (x3 x4 x5 x6 x7 x8 : Option Cell) : Env := [some (.dat C1), some (.dat C2), some (.dat (.lst (dNs L))), x3, x4, x5, x6, x7, x8]
section
variable {C1 C2 : D} {R S : List Rw} {f g : Nat → Option Nat} (S1 : Sq C1 (R.map dRw)) (S2 : Sq C2 (S.map dRw)) (hR : RepF R f) (hS : RepF S g) (h1 : R.length ≤ 27) (h2 : S.length ≤ 27)
include S1 S2 hR hS h1 h2 in
theorem fo_turn (L : List Nat) (p s : Nat) (hs : L[p]? = some s) (x5 x6 x7 x8 : Option Cell) (h5 : frC x5 = true) (h6 : frC x6 = true) (h7 : frC x7 = true) (h8 : frC x8 = true) :
    ∃ y5 y6 y7 y8, frC y5 = true ∧ frC y6 = true ∧ frC y7 = true ∧ frC y8 = true ∧ evSs g_first_over bFO (envO C1 C2 L (some (.dat (.int p))) (some (.dat (.int s))) x5 x6 x7 x8) = match pover (partM R s) (partM S s) L[p + 1]? with
      | some m => .rt (.int (m : Nat)) (envO C1 C2 L (some (.dat (.int p))) (some (.dat (.int s))) y5 y6 y7 y8)
      | none => .nx (envO C1 C2 L (some (.dat (.int p))) (some (.dat (.int s))) y5 y6 y7 y8) := by
  have h2b : 2 ≤ BIG := by have hB : BIG = 100000 := rfl; omega
  refine ⟨some (.dat (dM L[p + 1]?)), some (.dat (dM (pover (partM R s) (partM S s) L[p + 1]?))), some (.dat (dRw (partM R s))), some (.dat (dRw (partM S s))), rfl, rfl, rfl, rfl, ?_⟩
  have T1 : evS g_first_over (.asg (.name 5) (.ite (.cmp .lt (.bin .add (.v 3) (.c (.int 1))) (.blt .len [.v 2])) (.ix (.v 2) (.bin .add (.v 3) (.c (.int 1)))) (.c .non))) (envO C1 C2 L (some (.dat (.int p))) (some (.dat (.int s))) x5 x6 x7 x8) = .nx (envO C1 C2 L (some (.dat (.int p))) (some (.dat (.int s))) (some (.dat (dM L[p + 1]?))) x6 x7 x8) := by
    have ad := add_1 p
    have ln := len_lst (dNs L)
    rw [show (dNs L).length = L.length by unfold dNs; rw [List.length_map]] at ln
    have c := lt_nat (p + 1) L.length
    by_cases h : p + 1 < L.length
    · have hr : L[p + 1]? = some L[p + 1] := List.getElem?_eq_getElem h
      have q : atI (dNs L) ((p + 1 : Nat) : Int) = some (.int (L[p + 1] : Nat)) := at_map (fun n : Nat => D.int (n : Int)) L (p + 1) _ hr
      have e : dM L[p + 1]? = .int (L[p + 1] : Nat) := by rw [hr]; rfl
      rw [e]
      rw [decide_eq_true h] at c
      unfold envO
      generalize dNs L = LD at *
      generalize ((p + 1 : Nat) : Int) = p1 at *
      generalize (L.length : Int) = n at *
      generalize ((L[p + 1] : Nat) : Int) = nx at *
      simp [evSs, evS, evs, evr, truR, startE, cellsF, cellF, evq_c, evq_v, evq_bin, evq_cmp, evq_chn, evq_and_, evq_or_, evq_not_, evq_neg, evq_ite, evq_tup, evq_lst, evq_ix, evq_blt, evq_isin, Mp.R.bind, Mp.R.take, Mp.R.toS, SR.seq, takeO, rdO, cellAt, content, truD, runF, outE, lift, ad, ln, c, ixD, q, Mp.R.rd, bindT, freeB_eq, h5]
    · have e : dM L[p + 1]? = .non := by rw [List.getElem?_eq_none (by omega)]; rfl
      rw [e]
      rw [decide_eq_false h] at c
      unfold envO
      generalize dNs L = LD at *
      generalize ((p + 1 : Nat) : Int) = p1 at *
      generalize (L.length : Int) = n at *
      simp [evSs, evS, evs, evr, truR, startE, cellsF, cellF, evq_c, evq_v, evq_bin, evq_cmp, evq_chn, evq_and_, evq_or_, evq_not_, evq_neg, evq_ite, evq_tup, evq_lst, evq_ix, evq_blt, evq_isin, Mp.R.bind, Mp.R.take, Mp.R.toS, SR.seq, takeO, rdO, cellAt, content, truD, runF, outE, lift, ad, ln, c, bindT, freeB_eq, h5]
  have q2 := s_parts_at2 S1 S2 hR hS h1 h2 s
  have al := (part_giv hR (Nat.le_refl s) (fun r _ z => z)).2
  have q3 := s_part_over (partM R s) (partM S s) L[p + 1]? rfl al
  have T2 : evS g_first_over (.asg (.tup [7, 8]) (.call 1 [.lst [.v 0, .v 1], .v 4])) (envO C1 C2 L (some (.dat (.int p))) (some (.dat (.int s))) (some (.dat (dM L[p + 1]?))) x6 x7 x8) = .nx (envO C1 C2 L (some (.dat (.int p))) (some (.dat (.int s))) (some (.dat (dM L[p + 1]?))) x6 (some (.dat (dRw (partM R s)))) (some (.dat (dRw (partM S s))))) := by
    unfold envO
    generalize D.lst (dNs L) = LD at *
    generalize dM L[p + 1]? = z at *
    generalize dRw (partM R s) = d1 at *
    generalize dRw (partM S s) = d2 at *
    simp [evSs, evS, evs, evr, truR, startE, cellsF, cellF, evq_c, evq_v, evq_bin, evq_cmp, evq_chn, evq_and_, evq_or_, evq_not_, evq_neg, evq_ite, evq_tup, evq_lst, evq_ix, evq_blt, evq_isin, Mp.R.bind, Mp.R.take, Mp.R.toS, SR.seq, takeO, rdO, cellAt, content, truD, runF, outE, lift, cl_first_over_1, q2, bindT, freeB_eq, h7, h8, h2b]
  have T3 : evS g_first_over (.asg (.name 6) (.call 2 [.v 7, .v 8, .v 5])) (envO C1 C2 L (some (.dat (.int p))) (some (.dat (.int s))) (some (.dat (dM L[p + 1]?))) x6 (some (.dat (dRw (partM R s)))) (some (.dat (dRw (partM S s))))) = .nx (envO C1 C2 L (some (.dat (.int p))) (some (.dat (.int s))) (some (.dat (dM L[p + 1]?))) (some (.dat (dM (pover (partM R s) (partM S s) L[p + 1]?)))) (some (.dat (dRw (partM R s)))) (some (.dat (dRw (partM S s))))) := by
    unfold envO
    generalize D.lst (dNs L) = LD at *
    generalize dM (pover (partM R s) (partM S s) L[p + 1]?) = o at *
    generalize dM L[p + 1]? = z at *
    generalize dRw (partM R s) = d1 at *
    generalize dRw (partM S s) = d2 at *
    simp [evSs, evS, evs, evr, truR, startE, cellsF, cellF, evq_c, evq_v, evq_bin, evq_cmp, evq_chn, evq_and_, evq_or_, evq_not_, evq_neg, evq_ite, evq_tup, evq_lst, evq_ix, evq_blt, evq_isin, Mp.R.bind, Mp.R.take, Mp.R.toS, SR.seq, takeO, rdO, cellAt, content, truD, runF, outE, lift, cl_first_over_2, q3, bindT, freeB_eq, h6]
  unfold bFO
  rw [evSs, T1, seq_nx, evSs, T2, seq_nx, evSs, T3, seq_nx]
  clear T1 T2 T3 q2 q3
  unfold envO
  generalize D.lst (dNs L) = LD at *
  generalize dM L[p + 1]? = z at *
  generalize dRw (partM R s) = d1 at *
  generalize dRw (partM S s) = d2 at *
  cases pover (partM R s) (partM S s) L[p + 1]? with
  | none =>
    have c : cmpD .isnot .non .non = some false := rfl
    simp [evSs, evS, evs, evr, truR, startE, cellsF, cellF, evq_c, evq_v, evq_bin, evq_cmp, evq_chn, evq_and_, evq_or_, evq_not_, evq_neg, evq_ite, evq_tup, evq_lst, evq_ix, evq_blt, evq_isin, Mp.R.bind, Mp.R.take, Mp.R.toS, SR.seq, takeO, rdO, cellAt, content, truD, runF, outE, lift, c, dM]
  | some m =>
    have c : cmpD .isnot (.int (m : Int)) .non = some true := rfl
    simp [evSs, evS, evs, evr, truR, startE, cellsF, cellF, evq_c, evq_v, evq_bin, evq_cmp, evq_chn, evq_and_, evq_or_, evq_not_, evq_neg, evq_ite, evq_tup, evq_lst, evq_ix, evq_blt, evq_isin, Mp.R.bind, Mp.R.take, Mp.R.toS, SR.seq, takeO, rdO, cellAt, content, truD, runF, outE, lift, c, dM]
include S1 S2 hR hS h1 h2 in
theorem fo_loop (L : List Nat) : ∀ (l : List Nat) (p : Nat) (x3 x4 x5 x6 x7 x8 : Option Cell), L.drop p = l → frC x3 = true → frC x4 = true → frC x5 = true → frC x6 = true → frC x7 = true → frC x8 = true →
    ∃ env', forL (.tup [3, 4]) (fun e => evSs g_first_over bFO e) (enumD p (l.map fun n : Nat => D.int (n : Int))) (envO C1 C2 L x3 x4 x5 x6 x7 x8) = match overGo R S l with
      | some m => .rt (.int (m : Nat)) env'
      | none => .nx env'
  | [], p, x3, x4, x5, x6, x7, x8, _, _, _, _, _, _, _ => ⟨_, rfl⟩
  | s :: l, p, x3, x4, x5, x6, x7, x8, hd, h3, h4, h5, h6, h7, h8 => by
    have hs : L[p]? = some s := by
      have : (L.drop p)[0]? = some s := by rw [hd]; rfl
      simpa using this
    have hd' : L.drop (p + 1) = l := by
      have : (L.drop p).drop 1 = l := by rw [hd]; rfl
      rwa [List.drop_drop] at this
    have nx : L[p + 1]? = l.head? := by rw [← hd', List.head?_drop]
    obtain ⟨y5, y6, y7, y8, f5, f6, f7, f8, t⟩ := fo_turn S1 S2 hR hS h1 h2 L p s hs x5 x6 x7 x8 h5 h6 h7 h8
    rw [nx] at t
    have hb : bindT (.tup [3, 4]) (.tup [.int p, .int s]) (envO C1 C2 L x3 x4 x5 x6 x7 x8) = some (envO C1 C2 L (some (.dat (.int p))) (some (.dat (.int s))) x5 x6 x7 x8) := by
      unfold bindT envO
      simp [freeB_eq, h3, h4]
    rw [List.map_cons, enumD, forL, hb]
    dsimp only
    rw [t]
    unfold overGo
    cases pover (partM R s) (partM S s) l.head? with
    | some m => exact ⟨_, rfl⟩
    | none => exact fo_loop L l (p + 1) (some (.dat (.int p))) (some (.dat (.int s))) y5 y6 y7 y8 hd' rfl rfl f5 f6 f7 f8
include S1 S2 hR hS h1 h2 in
theorem s_first_over : f_first_over.sem [C1, C2] = .ok (dM (overGo R S (stsM R S))) [] := by
  have h2b : 2 ≤ BIG := by have hB : BIG = 100000 := rfl; omega
  have q1 := s_all_starts2 S1 S2 h1 h2
  obtain ⟨env', k⟩ := fo_loop S1 S2 hR hS h1 h2 (stsM R S) (stsM R S) 0 none none none none none none rfl rfl rfl rfl rfl rfl rfl
  generalize stsM R S = L at *
  have e := evi_enum (G := g_first_over) (i := 2) (env := envO C1 C2 L none none none none none none) (C := .lst (dNs L)) rfl rfl
  have T : evS g_first_over (.for_ (.tup [3, 4]) (.enum (.v 2)) bFO) (envO C1 C2 L none none none none none none) = match overGo R S L with
      | some m => .rt (.int (m : Nat)) env'
      | none => .nx env' := by
    rw [evS, e]; exact k
  have e0 : b_first_over = [.asg (.name 2) (.call 0 [.lst [.v 0, .v 1]]), .for_ (.tup [3, 4]) (.enum (.v 2)) bFO, .ret (.c .non)] := rfl
  have st : startE none 9 [C1, C2] = [some (.dat C1), some (.dat C2), none, none, none, none, none, none, none] := rfl
  have T0 : evS g_first_over (.asg (.name 2) (.call 0 [.lst [.v 0, .v 1]])) [some (.dat C1), some (.dat C2), none, none, none, none, none, none, none] = .nx (envO C1 C2 L none none none none none none) := by
    unfold envO
    generalize D.lst (dNs L) = LD at *
    simp [evSs, evS, evs, evr, truR, startE, cellsF, cellF, evq_c, evq_v, evq_bin, evq_cmp, evq_chn, evq_and_, evq_or_, evq_not_, evq_neg, evq_ite, evq_tup, evq_lst, evq_ix, evq_blt, evq_isin, Mp.R.bind, Mp.R.take, Mp.R.toS, SR.seq, takeO, rdO, cellAt, content, truD, runF, outE, lift, cl_first_over_0, q1, bindT, freeB_eq, h2b]
  show semB g_first_over 9 none b_first_over [C1, C2] = _
  cases ho : overGo R S L with
  | some m =>
    rw [ho] at T
    have U : evSs g_first_over b_first_over (startE none 9 [C1, C2]) = .rt (.int (m : Nat)) env' := by
      rw [e0, st, evSs, T0, seq_nx, evSs, T]; rfl
    rw [semB, U]; rfl
  | none =>
    rw [ho] at T
    have U : evSs g_first_over b_first_over (startE none 9 [C1, C2]) = .rt .non env' := by
      rw [e0, st, evSs, T0, seq_nx, evSs, T]; rfl
    rw [semB, U]; rfl
end
end Mp
set_option maxHeartbeats 4000000
namespace Mp
open PySem L2
variable [TabsW] [GdW]
variable [TabsW] [GdW]
theorem over_all {R S : List Rw} {f g : Nat → Option Nat} (hR : RepF R f) (hS : RepF S g) : match overGo R S (stsM R S) with
    | some m => ltM (g m) (f m) = true ∧ ∀ k, k < m → ltM (g k) (f k) = false
    | none => ∀ k, ltM (g k) (f k) = false := by
  have srt := setN_srt (R.map (·.s) ++ S.map (·.s))
  have mem : ∀ x, x ∈ stsM R S ↔ x ∈ R.map (·.s) ++ S.map (·.s) := fun x => setN_mem x _
  have z : 0 ∈ stsM R S := by
    rw [mem]
    refine List.mem_append.mpr (.inl ?_)
    cases R with
    | nil => have := hR.z; cases this
    | cons r R => have e : r.s = 0 := Option.some.inj hR.z
                  rw [List.map_cons, e]; exact List.mem_cons_self
  have inR : ∀ r, r ∈ R → r.s ∈ stsM R S := fun r hr => (mem r.s).mpr (List.mem_append.mpr (.inl (List.mem_map_of_mem hr)))
  have inS : ∀ r, r ∈ S → r.s ∈ stsM R S := fun r hr => (mem r.s).mpr (List.mem_append.mpr (.inr (List.mem_map_of_mem hr)))
  have srt : (stsM R S).Pairwise (· < ·) := srt
  generalize stsM R S = L at *
  cases L with
  | nil => cases z
  | cons s l =>
    have hp := List.pairwise_cons.mp srt
    have e : s = 0 := by
      rcases List.mem_cons.mp z with z | z
      · exact z.symm
      · have := hp.1 0 z; omega
    have at_ : ∀ (T : List Rw), (∀ r, r ∈ T → r.s ∈ s :: l) → ∀ r, r ∈ T → r.s ≤ s ∨ r.s ∈ l := fun T h r hr => by
      rcases List.mem_cons.mp (h r hr) with z | z
      · exact .inl (by omega)
      · exact .inr z
    have sp := over_spec hR hS l s srt (at_ R inR) (at_ S inS)
    cases ho : overGo R S (s :: l) with
    | some m =>
      rw [ho] at sp
      exact ⟨sp.2.1, fun k hk => sp.2.2 k (by omega) hk⟩
    | none =>
      rw [ho] at sp
      exact fun k => sp k (by omega)
theorem s_need_maps (R S : List Rw) : f_need_maps.sem [.lst [dRi R, dRi S]] = .ok .non [] := by
  unfold dRi
  generalize D.tup (R.map dRw) = a
  generalize D.tup (S.map dRw) = b
  have L : ev g_need_maps (.lc (.name 1) (.seq (.v 0)) none (.isin (.v 1) [(.cls "Rising")]) [1]) [some (.dat (.lst [.obj "Rising" ["rows"] [a], .obj "Rising" ["rows"] [b]])), none] = .ok (.val (.lst [.bl true, .bl true])) [some (.dat (.lst [.obj "Rising" ["rows"] [a], .obj "Rising" ["rows"] [b]])), none] :=
    ev_lc_map (G := g_need_maps) (i := 1) (it := .seq (.v 0)) (e := .isin (.v 1) [(.cls "Rising")]) (env := [some (.dat (.lst [.obj "Rising" ["rows"] [a], .obj "Rising" ["rows"] [b]])), none]) (env0 := [some (.dat (.lst [.obj "Rising" ["rows"] [a], .obj "Rising" ["rows"] [b]])), none]) (l := [a, b]) (f := fun x => .obj "Rising" ["rows"] [x]) (g := fun _ => .bl true) rfl (by have hB : BIG = 100000 := rfl; simp; omega) rfl (Nat.lt_succ_self 1) fun p _ => rfl
  have q1 := s_is_listed [.obj "Rising" ["rows"] [a], .obj "Rising" ["rows"] [b]]
  have q2 : bltD .len [.lst [.obj "Rising" ["rows"] [a], .obj "Rising" ["rows"] [b]]] = some (.int 2) := rfl
  have c : cmpD .eq (.int 2) (.int 0) = some false := rfl
  have q3 : bltD .all [.lst [.bl true, .bl true]] = some (.bl true) := rfl
  show semB g_need_maps 2 none b_need_maps [.lst [.obj "Rising" ["rows"] [a], .obj "Rising" ["rows"] [b]]] = _
  unfold semB b_need_maps
  generalize D.lst [.obj "Rising" ["rows"] [a], .obj "Rising" ["rows"] [b]] = X at *
  generalize [D.bl true, D.bl true] = Y at *
  simp [evSs, evS, evs, evr, truR, startE, cellsF, cellF, evq_c, evq_v, evq_bin, evq_cmp, evq_chn, evq_and_, evq_or_, evq_not_, evq_neg, evq_ite, evq_tup, evq_lst, evq_ix, evq_blt, evq_isin, Mp.R.bind, Mp.R.take, Mp.R.toS, SR.seq, takeO, rdO, cellAt, content, truD, runF, outE, lift, cl_need_maps_0, q1, q2, c, L, q3]
end Mp
set_option maxHeartbeats 4000000
namespace Mp
open PySem L2
variable [TabsW] [GdW]
theorem eqD_rw (r q : Rw) : eqD (dRw r) (dRw q) = decide (r = q) := by
  obtain ⟨s, v, g⟩ := r
  obtain ⟨s', v', g'⟩ := q
  have h1 := eq_nat s s'
  have h2 := eq_dM v v'
  have h3 : eqD (.bl g) (.bl g') = (g == g') := by rw [eqD]
  show eqD (.tup [.int s, dM v, .bl g]) (.tup [.int s', dM v', .bl g']) = _
  rw [eqD, eqDs, eqDs, eqDs, eqDs, h1, h2, h3, Bool.eq_iff_iff]
  simp
theorem eqDs_rows : ∀ R S : List Rw, eqDs (R.map dRw) (S.map dRw) = decide (R = S)
  | [], [] => by rw [List.map_nil, eqDs]; rfl
  | [], q :: S => by rw [List.map_nil, List.map_cons, eqDs]; rfl; all_goals intros; simp_all
  | r :: R, [] => by rw [List.map_nil, List.map_cons, eqDs]; rfl; all_goals intros; simp_all
  | r :: R, q :: S => by
    rw [List.map_cons, List.map_cons, eqDs, eqD_rw, eqDs_rows R S, Bool.eq_iff_iff]
    simp
theorem data_rw {n : Nat} (r : Rw) : dataD (n + 1) (dRw r) = true := by
  obtain ⟨s, v, g⟩ := r
  show dataD (n + 1) (.tup [.int s, dM v, .bl g]) = true
  refine dataD_tup fun d hd => ?_
  simp only [List.mem_cons, List.not_mem_nil, or_false] at hd
  rcases hd with rfl | rfl | rfl
  · exact dataD_int
  · exact data_dM v
  · exact dataD_bl
theorem data_rows (R : List Rw) : dataD 20 (.tup (R.map dRw)) = true := dataD_tup (n := 19) fun d hd => by
  obtain ⟨r, _, rfl⟩ := List.mem_map.mp hd
  exact data_rw r
theorem eq_rows (R S : List Rw) : cmpD .eq (.tup (R.map dRw)) (.tup (S.map dRw)) = some (decide (R = S)) := by
  have h : eqD (.tup (R.map dRw)) (.tup (S.map dRw)) = decide (R = S) := by rw [eqD]; exact eqDs_rows R S
  rw [cmpD, data_rows, data_rows, h]
  rfl
theorem m_eq (R S : List Rw) : m_Rising___eq__.sem [dRi R, dRi S] = .ok (.bl (decide (R = S))) [] := by
  show semB g_Rising___eq__ 2 none b_Rising___eq__ [dRi R, dRi S] = _
  refine sem_rt (e := [some (.dat (dRi R)), some (.dat (dRi S))]) ?_
  have F0 : ev g_Rising___eq__ (.fld (.v 0) "rows") [some (.dat (dRi R)), some (.dat (dRi S))] = .ok (.val (.tup (R.map dRw))) [some (.dat (dRi R)), some (.dat (dRi S))] := rfl
  have F1 : ev g_Rising___eq__ (.fld (.v 1) "rows") [some (.dat (dRi R)), some (.dat (dRi S))] = .ok (.val (.tup (S.map dRw))) [some (.dat (dRi R)), some (.dat (dRi S))] := rfl
  have I : ev g_Rising___eq__ (.isin (.v 1) [(.cls "Rising")]) [some (.dat (dRi R)), some (.dat (dRi S))] = .ok (.val (.bl true)) [some (.dat (dRi R)), some (.dat (dRi S))] := rfl
  exact ss_rt (t_ret ((x_and_t I rfl).trans (x_cmp F0 F1 (eq_rows R S))))
theorem m_eq_lst (R : List Rw) (ds : List D) : m_Rising___eq__.sem [dRi R, .lst ds] = .ok (.bl false) [] := by
  show semB g_Rising___eq__ 2 none b_Rising___eq__ [dRi R, .lst ds] = _
  refine sem_rt (e := [some (.dat (dRi R)), some (.dat (.lst ds))]) ?_
  have I : ev g_Rising___eq__ (.isin (.v 1) [(.cls "Rising")]) [some (.dat (dRi R)), some (.dat (.lst ds))] = .ok (.val (.bl false)) [some (.dat (dRi R)), some (.dat (.lst ds))] := rfl
  exact ss_rt (t_ret (x_and_f I rfl))
theorem m_eq_int (R : List Rw) (i : Int) : m_Rising___eq__.sem [dRi R, .int i] = .ok (.bl false) [] := by
  show semB g_Rising___eq__ 2 none b_Rising___eq__ [dRi R, .int i] = _
  refine sem_rt (e := [some (.dat (dRi R)), some (.dat (.int i))]) ?_
  have I : ev g_Rising___eq__ (.isin (.v 1) [(.cls "Rising")]) [some (.dat (dRi R)), some (.dat (.int i))] = .ok (.val (.bl false)) [some (.dat (dRi R)), some (.dat (.int i))] := rfl
  exact ss_rt (t_ret (x_and_f I rfl))
section
variable {R S : List Rw} {f g : Nat → Option Nat} (hR : RepF R f) (hS : RepF S g) (h1 : R.length ≤ 27) (h2 : S.length ≤ 27)
include hR hS h1 h2
theorem m_le : m_Rising___le__.sem [dRi R, dRi S] = .ok (.bl (overGo R S (stsM R S) == none)) [] := by
  have q := s_first_over (Sq.t (R.map dRw)) (Sq.t (S.map dRw)) hR hS h1 h2
  show semB g_Rising___le__ 2 none b_Rising___le__ [dRi R, dRi S] = _
  refine sem_rt (e := [some (.dat (dRi R)), some (.dat (dRi S))]) ?_
  have F0 : ev g_Rising___le__ (.fld (.v 0) "rows") [some (.dat (dRi R)), some (.dat (dRi S))] = .ok (.val (.tup (R.map dRw))) [some (.dat (dRi R)), some (.dat (dRi S))] := rfl
  have F1 : ev g_Rising___le__ (.fld (.v 1) "rows") [some (.dat (dRi R)), some (.dat (dRi S))] = .ok (.val (.tup (S.map dRw))) [some (.dat (dRi R)), some (.dat (dRi S))] := rfl
  have I : ev g_Rising___le__ (.isin (.v 1) [(.cls "Rising")]) [some (.dat (dRi R)), some (.dat (dRi S))] = .ok (.val (.bl true)) [some (.dat (dRi R)), some (.dat (dRi S))] := rfl
  exact ss_rt (t_ret ((x_and_t I rfl).trans (x_cmp (call_ok cl_Rising___le___0 (evs2 F0 F1) q) x_c (is_dM _))))
theorem s_above : f_first_above.sem [dRi R, dRi S] = .ok (dM (overGo R S (stsM R S))) [] := by
  have q := s_first_over (Sq.t (R.map dRw)) (Sq.t (S.map dRw)) hR hS h1 h2
  have q1 := s_need_maps R S
  show semB g_first_above 2 none b_first_above [dRi R, dRi S] = _
  refine sem_rt (e := [some (.dat (dRi R)), some (.dat (dRi S))]) ?_
  have F0 : ev g_first_above (.fld (.v 0) "rows") [some (.dat (dRi R)), some (.dat (dRi S))] = .ok (.val (.tup (R.map dRw))) [some (.dat (dRi R)), some (.dat (dRi S))] := rfl
  have F1 : ev g_first_above (.fld (.v 1) "rows") [some (.dat (dRi R)), some (.dat (dRi S))] = .ok (.val (.tup (S.map dRw))) [some (.dat (dRi R)), some (.dat (dRi S))] := rfl
  exact (ss_nx (t_expr (call_ok cl_first_above_0 (evs1 (x_lst (evs2 (x_v rfl) (x_v rfl)) (show 2 ≤ BIG by decide))) q1))).trans (ss_rt (t_ret (call_ok cl_first_above_1 (evs2 F0 F1) q)))
end
theorem s_lesser2 (a b : Option Nat) : f_lesser.sem [dM a, dM b] = .ok (dM (lesM a b)) [] := by
  have q := s_is_less b a
  show semB g_lesser 2 none b_lesser [dM a, dM b] = _
  refine sem_rt (e := [some (.dat (dM a)), some (.dat (dM b))]) ?_
  have C : ev g_lesser (.call 0 [.v 1, .v 0]) [some (.dat (dM a)), some (.dat (dM b))] = .ok (.val (.bl (ltM b a))) [some (.dat (dM a)), some (.dat (dM b))] := call_ok cl_lesser_0 (evs2 (x_v rfl) (x_v rfl)) q
  unfold lesM
  refine ss_rt (t_ret ?_)
  cases h : ltM b a with
  | true => rw [h] at C; exact (x_ite_t C rfl).trans (x_v rfl)
  | false => rw [h] at C; exact (x_ite_f C rfl).trans (x_v rfl)
section
variable {R S : List Rw} {f g : Nat → Option Nat} (hR : RepF R f) (hS : RepF S g) (h1 : R.length ≤ 27) (h2 : S.length ≤ 27)
include hR hS h1 h2
theorem s_unlike : f_first_unlike.sem [dRi R, dRi S] = .ok (dM (lesM (overGo R S (stsM R S)) (overGo S R (stsM S R)))) [] := by
  have q := s_first_over (Sq.t (R.map dRw)) (Sq.t (S.map dRw)) hR hS h1 h2
  have q' := s_first_over (Sq.t (S.map dRw)) (Sq.t (R.map dRw)) hS hR h2 h1
  have q1 := s_need_maps R S
  show semB g_first_unlike 2 none b_first_unlike [dRi R, dRi S] = _
  refine sem_rt (e := [some (.dat (dRi R)), some (.dat (dRi S))]) ?_
  have F0 : ev g_first_unlike (.fld (.v 0) "rows") [some (.dat (dRi R)), some (.dat (dRi S))] = .ok (.val (.tup (R.map dRw))) [some (.dat (dRi R)), some (.dat (dRi S))] := rfl
  have F1 : ev g_first_unlike (.fld (.v 1) "rows") [some (.dat (dRi R)), some (.dat (dRi S))] = .ok (.val (.tup (S.map dRw))) [some (.dat (dRi R)), some (.dat (dRi S))] := rfl
  exact (ss_nx (t_expr (call_ok cl_first_unlike_0 (evs1 (x_lst (evs2 (x_v rfl) (x_v rfl)) (show 2 ≤ BIG by decide))) q1))).trans (ss_rt (t_ret (call_ok cl_first_unlike_1 (evs2 (call_ok cl_first_unlike_2 (evs2 F0 F1) q) (call_ok cl_first_unlike_2 (evs2 F1 F0) q')) (s_lesser2 _ _))))
end
theorem m_last {R : List Rw} {r : Rw} (hr : R.getLast? = some r) : m_Rising_last.sem [dRi R] = .ok (dM (lastM R)) [] := by
  have q := last_rw (Sq.t (R.map dRw)) hr
  show semB g_Rising_last 4 none b_Rising_last [dRi R] = _
  have F0 : ev g_Rising_last (.fld (.v 0) "rows") [some (.dat (dRi R)), none, none, none] = .ok (.val (.tup (R.map dRw))) [some (.dat (dRi R)), none, none, none] := rfl
  have T1 : evS g_Rising_last (.asg (.tup [1, 2, 3]) (.ix (.fld (.v 0) "rows") (.neg (.c (.int 1))))) [some (.dat (dRi R)), none, none, none] = .nx [some (.dat (dRi R)), some (.dat (.int r.s)), some (.dat (dM r.v)), some (.dat (.bl r.g))] := t_asgt (x_ix F0 (x_neg x_c) q) rfl
  refine sem_rt (e := [some (.dat (dRi R)), some (.dat (.int r.s)), some (.dat (dM r.v)), some (.dat (.bl r.g))]) ?_
  refine (ss_nx T1).trans (ss_rt (t_ret ?_))
  unfold lastM
  rw [hr]
  dsimp only
  cases hv : r.v with
  | some v => exact (x_ite_f (x_and_f (x_cmp (x_v rfl) x_c (is_dM (some v))) rfl) rfl).trans x_c
  | none =>
    have G := gt_zero r.s
    by_cases hs : 0 < r.s
    · dsimp only
      rw [if_pos hs]
      rw [decide_eq_true hs] at G
      exact (x_ite_t ((x_and_t (x_cmp (x_v rfl) x_c (is_dM none)) rfl).trans (x_cmp (x_v rfl) x_c G)) rfl).trans (x_bin (x_v rfl) x_c (sub_1 hs))
    · dsimp only
      rw [if_neg hs]
      rw [decide_eq_false hs] at G
      exact (x_ite_f ((x_and_t (x_cmp (x_v rfl) x_c (is_dM none)) rfl).trans (x_cmp (x_v rfl) x_c G)) rfl).trans x_c
theorem nm_odd (x y : D) (bx cy : Bool) (hx : ∀ a : D, (ev g_need_maps (.isin (.v 1) [(.cls "Rising")]) [some (.dat a), some (.dat x)]).take = .ok (.bl bx) [some (.dat a), some (.dat x)]) (hy : ∀ a : D, (ev g_need_maps (.isin (.v 1) [(.cls "Rising")]) [some (.dat a), some (.dat y)]).take = .ok (.bl cy) [some (.dat a), some (.dat y)]) (hb : (bx && cy) = false) : f_need_maps.sem [.lst [x, y]] = .exc "BadPart" "part" (.str "maps") [] := by
  have L : ev g_need_maps (.lc (.name 1) (.seq (.v 0)) none (.isin (.v 1) [(.cls "Rising")]) [1]) [some (.dat (.lst [x, y])), none] = .ok (.val (.lst [.bl bx, .bl cy])) [some (.dat (.lst [x, y])), none] :=
    ev_lc_map (G := g_need_maps) (i := 1) (it := .seq (.v 0)) (e := .isin (.v 1) [(.cls "Rising")]) (env := [some (.dat (.lst [x, y])), none]) (env0 := [some (.dat (.lst [x, y])), none]) (l := [(bx, x), (cy, y)]) (f := Prod.snd) (g := fun p => .bl p.1) rfl (by have hB : BIG = 100000 := rfl; simp; omega) rfl (Nat.lt_succ_self 1) fun p hp => by
      simp only [List.mem_cons, List.not_mem_nil, or_false] at hp
      rcases hp with rfl | rfl
      · exact hx _
      · exact hy _
  have q1 := s_is_listed [x, y]
  have q2 : bltD .len [.lst [x, y]] = some (.int 2) := rfl
  have c : cmpD .eq (.int 2) (.int 0) = some false := rfl
  have q3 : bltD .all [.lst [.bl bx, .bl cy]] = some (.bl (bx && cy)) := by cases bx <;> cases cy <;> rfl
  rw [hb] at q3
  show semB g_need_maps 2 none b_need_maps [.lst [x, y]] = _
  refine sem_exc (e := [some (.dat (.lst [x, y])), none]) ?_
  exact ss_exc ((t_if_t ((x_or_f (x_notb (b := true) (call_ok cl_need_maps_0 (evs1 (x_v rfl)) q1)) rfl).trans ((x_or_f (x_cmp (x_blt1 (x_v rfl) q2) x_c c) rfl).trans (x_notb (b := false) (x_blt1 L q3)))) rfl).trans (ss_exc (t_raise x_c)))
def OddM (R : List Rw) (z : D) : Prop := z = .non ∨ z = .lst (R.map dRw) ∨ z = .int 5
theorem isin_odd {R : List Rw} {z : D} (h : OddM R z) (a : D) : (ev g_need_maps (.isin (.v 1) [(.cls "Rising")]) [some (.dat a), some (.dat z)]).take = .ok (.bl false) [some (.dat a), some (.dat z)] := by
  rcases h with rfl | rfl | rfl <;> rfl
theorem unlike_odd (T : List Rw) {R : List Rw} {z : D} (h : OddM R z) : f_first_unlike.sem [dRi T, z] = .exc "BadPart" "part" (.str "maps") [] := by
  show semB g_first_unlike 2 none b_first_unlike [dRi T, z] = _
  refine sem_exc (e := [some (.dat (dRi T)), some (.dat z)]) ?_
  exact ss_exc (t_expr_exc (call_exc cl_first_unlike_0 (evs1 (x_lst (evs2 (x_v rfl) (x_v rfl)) (show 2 ≤ BIG by decide))) (nm_odd (dRi T) z true false (fun _ => rfl) (isin_odd h) rfl)))
theorem above_odd (T : List Rw) {R : List Rw} {z : D} (h : OddM R z) : f_first_above.sem [z, dRi T] = .exc "BadPart" "part" (.str "maps") [] := by
  show semB g_first_above 2 none b_first_above [z, dRi T] = _
  refine sem_exc (e := [some (.dat z), some (.dat (dRi T))]) ?_
  exact ss_exc (t_expr_exc (call_exc cl_first_above_0 (evs1 (x_lst (evs2 (x_v rfl) (x_v rfl)) (show 2 ≤ BIG by decide))) (nm_odd z (dRi T) false true (isin_odd h) (fun _ => rfl) rfl)))
def oddC : List D := [.int (-1), .bl true, .str "0", .tup [.int 0], .int (-5)]
theorem minute_odd {z : D} (hz : z ∈ oddC) : f_need_minute.sem [z] = .exc "BadNumber" "number" z [] := by
  simp only [oddC, List.mem_cons, List.not_mem_nil, or_false] at hz
  rcases hz with rfl | rfl | rfl | rfl | rfl <;> kernel_rfl
theorem m_call_odd (R : List Rw) {z : D} (hz : z ∈ oddC) : m_Rising___call__.sem [dRi R, z] = .exc "BadNumber" "number" z [] := by
  show semB g_Rising___call__ 2 none b_Rising___call__ [dRi R, z] = _
  refine sem_exc (e := [some (.dat (dRi R)), some (.dat z)]) ?_
  exact ss_exc (t_expr_exc (call_exc cl_Rising___call___0 (evs1 (x_v rfl)) (minute_odd hz)))
end Mp
set_option maxHeartbeats 4000000
namespace Mp
open PySem L2
variable [TabsW] [GdW]
theorem s_lrows2 (a b : Int) : ∃ (R : List Rw) (q : Rw) (v : Nat) (a' b' : Int), Drawn R q.s v ∧ Checked (R ++ [q]) ∧ (R ++ [q]).length ≤ 6 ∧ SmR 100 (R ++ [q]) ∧ f__law_rows.sem [.lst (src a b)] = .ok (.lst ((R ++ [q]).map dRw)) (src a' b') := by
  have hB : BIG = 100000 := rfl
  obtain ⟨v0, a1, b1, h0, c1⟩ := s_take a b 5 (by decide) (by decide)
  obtain ⟨m, a2, b2, hm, c2⟩ := s_take a1 b1 6 (by decide) (by decide)
  obtain ⟨a3, b3, y1, R, s, v, y5, y6, y7, i1, i2, i3, i4, i5⟩ := rw_loop ((List.range' 0 m).map fun k : Nat => D.int (k : Int)) a2 b2 none [] 0 v0 none none none (Drawn.nil v0) (by rw [List.length_map, List.length_range', List.length_nil]; omega) (Nat.zero_le _) (fun r hr => nomatch hr) rfl rfl rfl rfl
  obtain ⟨u, a4, b4, hu, c4⟩ := s_take a3 b3 3 (by decide) (by decide)
  have st : startE (some 0) 8 [D.lst (src a b)] = [some (.io (src a b)), none, none, none, none, none, none, none] := rfl
  have T1 : evS g__law_rows (.parl3 2 3 (.c (.int 0)) 4 (.call 0 [.v 0, .c (.int 5)])) [some (.io (src a b)), none, none, none, none, none, none, none] = .nx (envRW a1 b1 none [] 0 v0 none none none) := by
    rw [evS, take_okD x_c]
    show ((ev g__law_rows (.call 0 [.v 0, .c (.int 5)]) [some (.io (src a b)), none, none, none, none, none, none, none]).take.toS _) = _
    have K := io_call (G := g__law_rows) (j := 0) (i := 0) (f := f__law_take) (es := [.c (.int 5)]) (env := [some (.io (src a b)), none, none, none, none, none, none, none]) rfl rfl rfl rfl (evs1 x_c) rfl c1
    rw [take_okD K]
    rfl
  have E2 : evi g__law_rows (.rng1 (.call 0 [.v 0, .c (.int 6)])) (envRW a1 b1 none [] 0 v0 none none none) = .ok ((List.range' 0 m).map fun k : Nat => D.int (k : Int)) (envRW a2 b2 none [] 0 v0 none none none) := by
    rw [← show iotaD ((0 : Nat) : Int) m = _ from iota_map' 0 m, evi, io_call (G := g__law_rows) (j := 0) (i := 0) (f := f__law_take) (es := [.c (.int 6)]) (env := envRW a1 b1 none [] 0 v0 none none none) rfl rfl rfl rfl (evs1 x_c) rfl c2]
    show (if -1000000 ≤ (m : Int) ∧ (m : Int) ≤ 1000000 then Mp.R.ok (iotaD 0 (m : Int).toNat) _ else .bad) = _
    rw [if_pos (by omega), Int.toNat_natCast]
    rfl
  have T2 := t_for (b := bRW) E2 i5
  have C3 : ev g__law_rows (.cmp .eq (.call 0 [.v 0, .c (.int 3)]) (.c (.int 0))) (envRW a3 b3 y1 R s v y5 y6 y7) = .ok (.val (.bl (u == 0))) (envRW a4 b4 y1 R s v y5 y6 y7) := x_cmp (io_call (env := envRW a3 b3 y1 R s v y5 y6 y7) rfl rfl rfl rfl (evs1 x_c) rfl c4) x_c (eq_natD u 0)
  have e0 : b__law_rows = [.parl3 2 3 (.c (.int 0)) 4 (.call 0 [.v 0, .c (.int 5)]), .for_ (.name 1) (.rng1 (.call 0 [.v 0, .c (.int 6)])) bRW, .if_ (.cmp .eq (.call 0 [.v 0, .c (.int 3)]) (.c (.int 0))) [.ret (.bin .add (.v 2) (.lst [.tup [.v 3, .c .non, .c (.bl false)]]))] [], .ret (.bin .add (.v 2) (.lst [.tup [.v 3, .v 4, .c (.bl true)]]))] := rfl
  have cat (q : Rw) : binD .add (content (.own (R.map dRw))) (.lst [dRw q]) = some (.lst ((R ++ [q]).map dRw)) := by
    show (if _ then some (D.lst _) else none) = _
    rw [if_pos (by rw [List.length_map]; simp; omega), List.map_append]
    rfl
  have sm (q : Rw) (hq : q.s = s) : SmR 100 (R ++ [q]) := fun r hr => by
    rcases List.mem_append.mp hr with hr | hr
    · exact i4 r hr
    · rw [List.mem_singleton.mp hr, hq]; omega
  have hb : ∀ n, n ≤ 3 → n ≤ BIG := fun n h => by omega
  by_cases hz : (u == 0) = true
  · rw [hz] at C3
    refine ⟨R, ⟨s, none, false⟩, v, a4, b4, i1, i1.fin rfl (fun w hw => nomatch hw) rfl rfl, by simp; omega, sm _ rfl, ?_⟩
    show semB g__law_rows 8 (some 0) b__law_rows [.lst (src a b)] = _
    refine sem_io (e := envRW a4 b4 y1 R s v y5 y6 y7) ?_ rfl
    rw [e0, st]
    exact (ss_nx T1).trans ((ss_nx T2).trans (ss_rt ((t_if_t C3 rfl).trans (ss_rt (t_ret (x_bin_pl (x_vo rfl) (x_lst (evs1 (x_tup (evs3 (x_v rfl) x_c x_c) (hb 3 (by decide)))) (hb 1 (by decide))) rfl (cat ⟨s, none, false⟩)))))))
  · rw [Bool.eq_false_iff.mpr hz] at C3
    refine ⟨R, ⟨s, some v, true⟩, v, a4, b4, i1, i1.fin (q := ⟨s, some v, true⟩) rfl (fun w hw => by cases hw; exact Nat.le_refl _) (decide_eq_true i1.sv) rfl, by simp; omega, sm _ rfl, ?_⟩
    show semB g__law_rows 8 (some 0) b__law_rows [.lst (src a b)] = _
    refine sem_io (e := envRW a4 b4 y1 R s v y5 y6 y7) ?_ rfl
    rw [e0, st]
    exact (ss_nx T1).trans ((ss_nx T2).trans ((ss_nx (t_if_f0 C3)).trans (ss_rt (t_ret (x_bin_pl (x_vo rfl) (x_lst (evs1 (x_tup (evs3 (x_v rfl) (x_v rfl) x_c) (hb 3 (by decide)))) (hb 1 (by decide))) rfl (cat ⟨s, some v, true⟩))))))
theorem cat_lst (xs ys : List D) (h : xs.length + ys.length ≤ BIG) : binD .add (.lst xs) (.lst ys) = some (.lst (xs ++ ys)) := by
  show (if _ then some (D.lst _) else none) = _
  rw [if_pos h]
theorem cut_last (l : List D) : cutD l none (some (-1)) = l.dropLast := by
  unfold cutD
  have e1 : HT.sIx l.length l.length (some (-1)) = l.length - 1 := by
    show (if (-1 : Int) < 0 then ((-1 : Int) + (l.length : Int)).toNat else min (-1 : Int).toNat l.length) = _
    rw [if_pos (by omega)]; omega
  have e2 : HT.sIx l.length 0 none = 0 := rfl
  rw [e1, e2, List.drop_zero, Nat.sub_zero, List.dropLast_eq_take]
theorem x_slN {G : Ctx} {a : IR} {E E1 : Env} {ds : List D} (h : ev G a E = .ok (.val (.lst ds)) E1) : ev G (.sl a none (some (.neg (.c (.int 1))))) E = .ok (.val (.lst ds.dropLast)) E1 := by
  rw [evq_sl, h, Mp.R.bind_ok, evo, Mp.R.bind_ok, evo, evq_neg, evq_c, ← cut_last]
  rfl
theorem drawn_ahead {A : List Rw} {q : Rw} {v : Nat} (h : Drawn A q.s v) (ck : Checked (A ++ [q])) (hs : q.s ≠ 0) : ∃ x, val (A ++ [q]) (q.s - 1) = some x ∧ ∀ a, A.getLast? = some a → giv a (q.s - 1) = some x := by
  have st := checked_st ck
  rcases List.eq_nil_or_concat A with rfl | ⟨A', a, rfl⟩
  · have := h.z
    have this : q.s = 0 := Option.some.inj this
    exact absurd this hs
  · rw [List.concat_eq_append] at *
    have la : (A' ++ [a]).getLast? = some a := by simp
    obtain ⟨h1, x, h2, h3, h4⟩ := h.last a la
    refine ⟨x, ?_, fun b hb => by rw [la] at hb; cases hb; exact h2⟩
    rw [List.append_assoc] at st ⊢
    rw [← h2]
    exact val_at A' a [q] (q.s - 1) st (by omega) (fun p hp => by cases hp; omega)
theorem Drawn.with {A : List Rw} {s v w : Nat} (h : Drawn A s v) (hs : s ≤ w) (hx : ∀ a, A.getLast? = some a → ∃ x, giv a (s - 1) = some x ∧ x ≤ w) : Drawn A s w :=
  ⟨h.alone, h.be, h.z, fun a ha => by
    obtain ⟨h1, x, h2, h3, h4⟩ := h.last a ha
    obtain ⟨y, k1, k2⟩ := hx a ha
    rw [h2] at k1
    cases k1
    exact ⟨h1, x, h2, k2, h4⟩, hs⟩
theorem s_turned (a b : Int) {A : List Rw} {q : Rw} {v : Nat} (h : Drawn A q.s v) (ck : Checked (A ++ [q])) (hl : (A ++ [q]).length ≤ 6) (hm : SmR 100 (A ++ [q])) : ∃ (S : List Rw) (a' b' : Int), Checked S ∧ S.length ≤ 6 ∧ SmR 100 S ∧ f__law_turned_row.sem [.lst (src a b), .lst ((A ++ [q]).map dRw)] = .ok (.lst (S.map dRw)) (src a' b') := by
  have hB : BIG = 100000 := rfl
  obtain ⟨w, a1, b1, hw, c1⟩ := s_take a b 4 (by decide) (by decide)
  have rep := (checked_good ck).1
  have lq := hl
  rw [List.length_append, List.length_singleton] at lq
  have hq : q.s ≤ 100 := hm q (by simp)
  have fin_sm (q' : Rw) (h' : q'.s = q.s) : SmR 100 (A ++ [q']) := fun r hr => by
    rcases List.mem_append.mp hr with hr | hr
    · exact hm r (List.mem_append.mpr (.inl hr))
    · rw [List.mem_singleton.mp hr, h']; exact hq
  have fin_len (q' : Rw) : (A ++ [q']).length ≤ 6 := by rw [List.length_append, List.length_singleton]; exact lq
  have lastq : ((A ++ [q])).getLast? = some q := by simp
  have dl : ((A ++ [q]).map dRw).dropLast = A.map dRw := by simp
  have cat (q' : Rw) : binD .add (.lst (A.map dRw)) (.lst [dRw q']) = some (.lst ((A ++ [q']).map dRw)) := by
    show (if _ then some (D.lst _) else none) = _
    rw [if_pos (by rw [List.length_map]; simp; omega), List.map_append]
    rfl
  have ixl := last_rw (Sq.l ((A ++ [q]).map dRw)) lastq
  have q2 := fun t => s_lvalue rep (by omega : (A ++ [q]).length ≤ 10000) t
  obtain ⟨X, hX⟩ : ∃ X, (A ++ [q]).map dRw = X := ⟨_, rfl⟩
  rw [hX] at ixl dl ⊢
  simp only [hX] at q2
  have st : startE (some 0) 7 [D.lst (src a b), .lst X] = [some (.io (src a b)), some (.dat (.lst X)), none, none, none, none, none] := rfl
  have T1 : evS g__law_turned_row (.asg (.name 2) (.call 0 [.v 0, .c (.int 4)])) [some (.io (src a b)), some (.dat (.lst X)), none, none, none, none, none] = .nx [some (.io (src a1 b1)), some (.dat (.lst X)), some (.dat (.int w)), none, none, none, none] :=
    t_asg (io_call (f := f__law_take) (env := [some (.io (src a b)), some (.dat (.lst X)), none, none, none, none, none]) rfl rfl rfl rfl (evs1 x_c) rfl c1) rfl
  obtain ⟨E1, hE1⟩ : ∃ E1, ([some (.io (src a1 b1)), some (.dat (.lst X)), some (.dat (.int w)), none, none, none, none] : Env) = E1 := ⟨_, rfl⟩
  have I2 : ev g__law_turned_row (.cmp .eq (.v 2) (.c (.int 0))) E1 = .ok (.val (.bl (w == 0))) E1 := by rw [← hE1]; exact x_cmp (x_v rfl) x_c (eq_natD w 0)
  have I3 : ev g__law_turned_row (.cmp .eq (.v 2) (.c (.int 1))) E1 = .ok (.val (.bl (w == 1))) E1 := by rw [← hE1]; exact x_cmp (x_v rfl) x_c (eq_natD w 1)
  have IX : ev g__law_turned_row (.ix (.ix (.v 1) (.neg (.c (.int 1)))) (.c (.int 0))) E1 = .ok (.val (.int q.s)) E1 := by rw [← hE1]; exact x_ix (x_ix (x_v rfl) (x_neg x_c) ixl) x_c (row_s q)
  have SL : ev g__law_turned_row (.sl (.v 1) none (some (.neg (.c (.int 1))))) E1 = .ok (.val (.lst (A.map dRw))) E1 := by rw [← dl, ← hE1]; exact x_slN (x_v rfl)
  have V1 : ev g__law_turned_row (.v 1) E1 = .ok (.val (.lst X)) E1 := by rw [← hE1]; exact x_v rfl
  by_cases w0 : w = 0
  · have : (w == 0) = true := by rw [w0]; rfl
    rw [this] at I2
    refine ⟨A ++ [q], a1, b1, ck, hl, hm, ?_⟩
    rw [hX]
    show semB g__law_turned_row 7 (some 0) b__law_turned_row [.lst (src a b), .lst X] = _
    refine sem_io (e := E1) ?_ (by rw [← hE1]; rfl)
    rw [st]
    refine (ss_nx T1).trans ?_
    rw [hE1]
    exact ss_rt ((t_if_t I2 rfl).trans (ss_rt (t_ret V1)))
  · have w0' : (w == 0) = false := beq_eq_false_iff_ne.mpr w0
    rw [w0'] at I2
    by_cases w1 : w = 1
    · have : (w == 1) = true := by rw [w1]; rfl
      rw [this] at I3
      refine ⟨A ++ [⟨q.s, none, false⟩], a1, b1, h.fin rfl (fun w hw => nomatch hw) rfl rfl, fin_len _, fin_sm _ rfl, ?_⟩
      show semB g__law_turned_row 7 (some 0) b__law_turned_row [.lst (src a b), .lst X] = _
      refine sem_io (e := E1) ?_ (by rw [← hE1]; rfl)
      rw [st]
      refine (ss_nx T1).trans ?_
      rw [hE1]
      exact (ss_nx (t_if_f0 I2)).trans (ss_rt ((t_if_t I3 rfl).trans (ss_rt (t_ret (x_bin SL (x_lst (evs1 (x_tup (evs3 IX x_c x_c) (show 3 ≤ BIG by decide))) (show 1 ≤ BIG by decide)) (cat ⟨q.s, none, false⟩))))))
    · have w1' : (w == 1) = false := beq_eq_false_iff_ne.mpr w1
      rw [w1'] at I3
      obtain ⟨k, a2, b2, hk, c2⟩ := s_take a1 b1 3 (by decide) (by decide)
      obtain ⟨x0, hx1, hx2⟩ : ∃ x0 : Nat, (q.s ≠ 0 → val (A ++ [q]) (q.s - 1) = some x0) ∧ (q.s = 0 → x0 = 0) ∧ ∀ a, A.getLast? = some a → giv a (q.s - 1) = some x0 := by
        by_cases z : q.s = 0
        · refine ⟨0, fun h' => absurd z h', fun _ => rfl, fun a ha => ?_⟩
          have := (h.last a ha).1
          omega
        · obtain ⟨x, e1, e2⟩ := drawn_ahead h ck z
          exact ⟨x, fun _ => e1, fun h' => absurd h' z, e2⟩
      have dw : Drawn A q.s (max q.s x0 + k) := h.with (by omega) fun a ha => ⟨x0, hx2.2 a ha, by omega⟩
      refine ⟨A ++ [⟨q.s, some (max q.s x0 + k), true⟩], a2, b2, dw.fin (q := ⟨q.s, some (max q.s x0 + k), true⟩) rfl (fun w hw => by cases hw; exact Nat.le_refl _) (decide_eq_true dw.sv) rfl, fin_len _, fin_sm _ rfl, ?_⟩
      have T4 : evS g__law_turned_row (.asg (.name 3) (.ix (.ix (.v 1) (.neg (.c (.int 1)))) (.c (.int 0)))) E1 = .nx [some (.io (src a1 b1)), some (.dat (.lst X)), some (.dat (.int w)), some (.dat (.int q.s)), none, none, none] := t_asg IX (by rw [← hE1]; rfl)
      have T5 : evS g__law_turned_row (.asg (.name 4) (.ite (.cmp .eq (.v 3) (.c (.int 0))) (.lst [.c (.int 0)]) (.lst [.call 1 [.v 1, .bin .sub (.v 3) (.c (.int 1))]]))) [some (.io (src a1 b1)), some (.dat (.lst X)), some (.dat (.int w)), some (.dat (.int q.s)), none, none, none] = .nx [some (.io (src a1 b1)), some (.dat (.lst X)), some (.dat (.int w)), some (.dat (.int q.s)), some (.dat (.lst [.int x0])), none, none] := by
        refine t_asg (d := .lst [.int x0]) (E1 := [some (.io (src a1 b1)), some (.dat (.lst X)), some (.dat (.int w)), some (.dat (.int q.s)), none, none, none]) ?_ rfl
        have C := eq_natD q.s 0
        by_cases z : q.s = 0
        · have : (q.s == 0) = true := by rw [z]; rfl
          rw [this] at C
          rw [hx2.1 z]
          exact (x_ite_t (x_cmp (x_v rfl) x_c C) rfl).trans (x_lst (evs1 x_c) (show 1 ≤ BIG by decide))
        · have : (q.s == 0) = false := beq_eq_false_iff_ne.mpr z
          rw [this] at C
          have q3 := q2 (q.s - 1)
          rw [hx1 z] at q3
          exact (x_ite_f (x_cmp (x_v rfl) x_c C) rfl).trans (x_lst (evs1 (call_ok cl__law_turned_row_1 (evs2 (x_v rfl) (x_bin (x_v rfl) x_c (sub_1 (by omega)))) q3)) (show 1 ≤ BIG by decide))
      have ad : binD .add (.lst [.int (q.s : Nat)]) (.lst [.int (x0 : Nat)]) = some (.lst ([q.s, x0].map fun n : Nat => D.int (n : Int))) := cat_lst _ _ (show 1 + 1 ≤ BIG by decide)
      have L : ev g__law_turned_row (.lc (.name 6) (.seq (.bin .add (.lst [.v 3]) (.v 4))) none (.blt .int [.v 6]) [6]) [some (.io (src a1 b1)), some (.dat (.lst X)), some (.dat (.int w)), some (.dat (.int q.s)), some (.dat (.lst [.int x0])), none, none] = .ok (.val (.lst ([q.s, x0].map fun n : Nat => D.int (n : Int)))) [some (.io (src a1 b1)), some (.dat (.lst X)), some (.dat (.int w)), some (.dat (.int q.s)), some (.dat (.lst [.int x0])), none, none] :=
        ev_lc_map (G := g__law_turned_row) (i := 6) (it := .seq (.bin .add (.lst [.v 3]) (.v 4))) (e := .blt .int [.v 6]) (l := [q.s, x0]) (f := fun n : Nat => D.int (n : Int)) (g := fun n : Nat => D.int (n : Int)) (by
          rw [evi, take_okD (x_bin (x_lst (evs1 (x_v rfl)) (show 1 ≤ BIG by decide)) (x_v rfl) ad)]
          rfl) (show 2 ≤ BIG by decide) rfl (by simp) fun n _ => take_okD (x_blt1 (x_v rfl) (int_nat _))
      have mx : bltD .maxl [.lst ([q.s, x0].map fun n : Nat => D.int (n : Int))] = some (.int ((max q.s x0 : Nat) : Int)) := by
        show some (D.int (max (q.s : Int) (x0 : Int))) = _
        congr 2; omega
      have T6 : evS g__law_turned_row (.asg (.name 5) (.bin .add (.blt .maxl [.lc (.name 6) (.seq (.bin .add (.lst [.v 3]) (.v 4))) none (.blt .int [.v 6]) [6]]) (.call 0 [.v 0, .c (.int 3)]))) [some (.io (src a1 b1)), some (.dat (.lst X)), some (.dat (.int w)), some (.dat (.int q.s)), some (.dat (.lst [.int x0])), none, none] = .nx [some (.io (src a2 b2)), some (.dat (.lst X)), some (.dat (.int w)), some (.dat (.int q.s)), some (.dat (.lst [.int x0])), some (.dat (.int ((max q.s x0 + k : Nat) : Int))), none] :=
        t_asg (x_bin (x_blt1 L mx) (io_call (f := f__law_take) (env := [some (.io (src a1 b1)), some (.dat (.lst X)), some (.dat (.int w)), some (.dat (.int q.s)), some (.dat (.lst [.int x0])), none, none]) rfl rfl rfl rfl (evs1 x_c) rfl c2) (add_nat (max q.s x0) k)) rfl
      show semB g__law_turned_row 7 (some 0) b__law_turned_row [.lst (src a b), .lst X] = _
      refine sem_io (e := [some (.io (src a2 b2)), some (.dat (.lst X)), some (.dat (.int w)), some (.dat (.int q.s)), some (.dat (.lst [.int x0])), some (.dat (.int ((max q.s x0 + k : Nat) : Int))), none]) ?_ rfl
      rw [st]
      refine (ss_nx T1).trans ?_
      rw [hE1]
      refine (ss_nx (t_if_f0 I2)).trans ((ss_nx (t_if_f0 I3)).trans ((ss_nx T4).trans ((ss_nx T5).trans ((ss_nx T6).trans (ss_rt (t_ret ?_))))))
      have SL2 : ev g__law_turned_row (.sl (.v 1) none (some (.neg (.c (.int 1))))) [some (.io (src a2 b2)), some (.dat (.lst X)), some (.dat (.int w)), some (.dat (.int q.s)), some (.dat (.lst [.int x0])), some (.dat (.int ((max q.s x0 + k : Nat) : Int))), none] = .ok (.val (.lst (A.map dRw))) [some (.io (src a2 b2)), some (.dat (.lst X)), some (.dat (.int w)), some (.dat (.int q.s)), some (.dat (.lst [.int x0])), some (.dat (.int ((max q.s x0 + k : Nat) : Int))), none] := by rw [← dl]; exact x_slN (x_v rfl)
      exact x_bin SL2 (x_lst (evs1 (x_tup (evs3 (x_v rfl) (x_v rfl) x_c) (show 3 ≤ BIG by decide))) (show 1 ≤ BIG by decide)) (cat ⟨q.s, some (max q.s x0 + k), true⟩)
end Mp
set_option maxHeartbeats 4000000
namespace Mp
open PySem L2
variable [TabsW] [GdW]
def valsN (f : Nat → Option Nat) (n : Nat) : List D := (List.range' 0 n).map fun t => dM (f t)
theorem valsN_len (f : Nat → Option Nat) (n : Nat) : (valsN f n).length = n := by unfold valsN; rw [List.length_map, List.length_range']
theorem vals_at (f : Nat → Option Nat) {n t : Nat} (h : t < n) : ixD (.lst (valsN f n)) (.int (t : Int)) = some (dM (f t)) := by
  have : (List.range' 0 n)[t]? = some t := by
    rw [List.getElem?_eq_getElem (by rw [List.length_range']; exact h), List.getElem_range']
    congr 1; omega
  show atI _ _ = _
  exact at_map (fun t => dM (f t)) (List.range' 0 n) t t this
theorem data_vals (f : Nat → Option Nat) (n : Nat) : dataD 20 (.lst (valsN f n)) = true := dataD_lst (n := 19) fun d hd => by
  obtain ⟨t, _, rfl⟩ := List.mem_map.mp hd
  exact data_dM _
theorem s_lvalues {T : List Rw} {f : Nat → Option Nat} (h : RepF T f) (hl : T.length ≤ 10000) (n : Nat) (hn : n ≤ 1000) : f__law_values.sem [dRi T, .int n] = .ok (.lst (valsN f n)) [] := by
  have hB : BIG = 100000 := rfl
  show semB g__law_values 3 none b__law_values [dRi T, .int n] = _
  refine sem_rt (e := [some (.dat (dRi T)), some (.dat (.int n)), none]) ?_
  refine ss_rt (t_ret ?_)
  exact ev_lc_map (G := g__law_values) (i := 2) (it := .rng1 (.v 1)) (e := .meth 0 (.v 0) [.v 2]) (env0 := [some (.dat (dRi T)), some (.dat (.int n)), none]) (l := List.range' 0 n) (f := fun t : Nat => D.int (t : Int)) (g := fun t => dM (f t)) (evi_rng1 (x_v rfl) (by omega)) (by rw [List.length_range']; omega) rfl (by simp) fun t _ =>
    take_okD (meth_ok2 (m := m_Rising___call__) rfl (x_v rfl) ⟨rfl, rfl, rfl⟩ (evs1 (x_v rfl)) (m_call h hl (some t)))
theorem s_labove (a b : Option Nat) : f__law_above.sem [dM a, dM b] = .ok (.bl (ltM b a)) [] := by
  show semB g__law_above 2 none b__law_above [dM a, dM b] = _
  refine sem_rt (e := [some (.dat (dM a)), some (.dat (dM b))]) ?_
  refine ss_rt (t_ret ?_)
  cases b with
  | none => exact x_and_f (x_cmp (x_v rfl) x_c (show cmpD .isnot .non .non = some false from rfl)) rfl
  | some b =>
    refine (x_and_t (x_cmp (x_v rfl) x_c (show cmpD .isnot (.int (b : Int)) .non = some true from rfl)) rfl).trans ?_
    cases a with
    | none => exact x_or_t (x_cmp (x_v rfl) x_c (show cmpD .is_ .non .non = some true from rfl)) rfl
    | some a =>
      refine (x_or_f (x_cmp (x_v rfl) x_c (show cmpD .is_ (.int (a : Int)) .non = some false from rfl)) rfl).trans ?_
      refine x_cmp (x_v rfl) (x_v rfl) ?_
      show some (decide ((b : Int) < (a : Int))) = some (decide (b < a))
      congr 1; rw [decide_eq_decide]; omega
theorem isnot_dM (a : Option Nat) : cmpD .isnot (dM a) .non = some a.isSome := by cases a <;> rfl
theorem range_cut {k n : Nat} (h : k < n) : List.range' 0 n = List.range' 0 (k + 1) ++ List.range' (k + 1) (n - k - 1) := by
  have a := List.range'_append (s := 0) (m := k + 1) (n := n - k - 1) (step := 1)
  rw [show k + 1 + (n - k - 1) = n by omega] at a
  rw [← a]
  simp
theorem eq_nil (ns : List Nat) : cmpD .eq (.lst (ns.map fun n : Nat => D.int (n : Int))) (.lst []) = some ns.isEmpty := by
  have h1 : dataD 20 (.lst (ns.map fun n : Nat => D.int (n : Int))) = true := dataD_lst (n := 19) fun d hd => by
    obtain ⟨n, _, rfl⟩ := List.mem_map.mp hd
    exact dataD_int
  have h2 : dataD 20 (.lst []) = true := dataD_lst (n := 19) fun d hd => nomatch hd
  have h3 : eqD (.lst (ns.map fun n : Nat => D.int (n : Int))) (.lst []) = ns.isEmpty := by
    cases ns with
    | nil => rw [List.map_nil, eqD, eqDs]; rfl
    | cons n ns => rw [List.map_cons, eqD, eqDs]; rfl; all_goals intros; simp_all
  rw [cmpD, h1, h2, h3]
  rfl
theorem ne_nilN (ns : List Nat) : cmpD .ne (.lst (ns.map fun n : Nat => D.int (n : Int))) (.lst []) = some (!ns.isEmpty) := by
  have h1 : dataD 20 (.lst (ns.map fun n : Nat => D.int (n : Int))) = true := dataD_lst (n := 19) fun d hd => by
    obtain ⟨n, _, rfl⟩ := List.mem_map.mp hd
    exact dataD_int
  have h2 : dataD 20 (.lst []) = true := dataD_lst (n := 19) fun d hd => nomatch hd
  have h3 : eqD (.lst (ns.map fun n : Nat => D.int (n : Int))) (.lst []) = ns.isEmpty := by
    cases ns with
    | nil => rw [List.map_nil, eqD, eqDs]; rfl
    | cons n ns => rw [List.map_cons, eqD, eqDs]; rfl; all_goals intros; simp_all
  rw [cmpD, h1, h2, h3]
  rfl
theorem s_llast {f : Nat → Option Nat} (hg : Good f) {n : Nat} (h0 : 0 < n) (hn : n ≤ 1000) (o : Option Nat) (ho : match o with
    | some k => f k ≠ none ∧ ∀ m, k < m → f m = none
    | none => (∀ m, f m ≠ none) ∨ ∀ m, f m = none) (hk : ∀ k, o = some k → k + 1 < n) : f__law_last.sem [.lst (valsN f n)] = .ok (dM o) [] := by
  have hB : BIG = 100000 := rfl
  have stay : ∀ a b, a ≤ b → f a = none → f b = none := fun a b hab ha => by
    cases hb : f b with
    | none => rfl
    | some y =>
      have := hg.mono a b hab y (by rw [hb]; exact ⟨y, rfl, Nat.le_refl _⟩)
      rw [ha] at this
      obtain ⟨_, h, _⟩ := this
      cases h
  have ln : bltD .len [.lst (valsN f n)] = some (.int (n : Int)) := by
    show some (D.int ((valsN f n).length : Int)) = _
    rw [valsN_len]
  have L : ev g__law_last (.lc (.name 2) (.rng1 (.blt .len [.v 0])) (some (.cmp .isnot (.ix (.v 0) (.v 2)) (.c .non))) (.v 2) [2]) [some (.dat (.lst (valsN f n))), none, none] = .ok (.val (.lst (((List.range' 0 n).filter fun t => (f t).isSome).map fun t : Nat => D.int (t : Int)))) [some (.dat (.lst (valsN f n))), none, none] :=
    ev_lc_filt (G := g__law_last) (i := 2) (env0 := [some (.dat (.lst (valsN f n))), none, none]) (l := List.range' 0 n) (f := fun t : Nat => D.int (t : Int)) (g := fun t : Nat => D.int (t : Int)) (fun t => (f t).isSome) (evi_rng1 (x_blt1 (x_v rfl) ln) (by omega)) (by rw [List.length_range']; omega) rfl (by simp) (fun t ht => tru_valB (x_cmp (x_ix (x_v rfl) (x_v rfl) (vals_at f (by have := List.mem_range'_1.mp ht; omega))) x_c (isnot_dM (f t))) rfl) (fun t _ _ => take_okD (x_v rfl))
  show semB g__law_last 3 none b__law_last [.lst (valsN f n)] = _
  have Fl : ∀ F : List Nat, (List.range' 0 n).filter (fun t => (f t).isSome) = F → (ev g__law_last (.ite (.or_ (.cmp .eq (.blt .len [.v 1]) (.blt .len [.v 0])) (.cmp .eq (.v 1) (.lst []))) (.c .non) (.ix (.v 1) (.neg (.c (.int 1))))) [some (.dat (.lst (valsN f n))), some (.dat (.lst (F.map fun t : Nat => D.int (t : Int)))), none] = .ok (.val (dM o)) [some (.dat (.lst (valsN f n))), some (.dat (.lst (F.map fun t : Nat => D.int (t : Int)))), none]) → semB g__law_last 3 none b__law_last [.lst (valsN f n)] = .ok (dM o) [] := fun F hF hE => by
    rw [hF] at L
    refine sem_rt (e := [some (.dat (.lst (valsN f n))), some (.dat (.lst (F.map fun t : Nat => D.int (t : Int)))), none]) ?_
    exact (ss_nx (t_asg L rfl)).trans (ss_rt (t_ret hE))
  have lnF : ∀ F : List Nat, bltD .len [.lst (F.map fun t : Nat => D.int (t : Int))] = some (.int (F.length : Int)) := fun F => by
    show some (D.int ((F.map fun t : Nat => D.int (t : Int)).length : Int)) = _
    rw [List.length_map]
  cases o with
  | some k =>
    have lt := hk k rfl
    have e : (List.range' 0 n).filter (fun t => (f t).isSome) = List.range' 0 (k + 1) := by
      rw [range_cut (by omega : k < n), List.filter_append, List.filter_eq_self.mpr, List.filter_eq_nil_iff.mpr, List.append_nil]
      · intro t ht
        rw [ho.2 t (by have := List.mem_range'_1.mp ht; omega)]
        exact Bool.false_ne_true
      · intro t ht
        cases h : f t with
        | some _ => rfl
        | none => exact absurd (stay t k (by have := List.mem_range'_1.mp ht; omega) h) ho.1
    refine Fl _ e ?_
    have c1 : cmpD .eq (.int ((List.range' 0 (k + 1)).length : Int)) (.int (n : Int)) = some false := by
      rw [List.length_range', eq_natD, beq_eq_false_iff_ne.mpr (by omega : k + 1 ≠ n)]
    have c2 : cmpD .eq (.lst ((List.range' 0 (k + 1)).map fun t : Nat => D.int (t : Int))) (.lst []) = some false := by
      rw [eq_nil]; rfl
    have ix : ixD (.lst ((List.range' 0 (k + 1)).map fun t : Nat => D.int (t : Int))) (.int (-1)) = some (.int (k : Int)) := by
      show atI _ _ = _
      rw [last_at _ (by simp [List.range'_succ]), List.getLast?_map, List.range'_concat, List.getLast?_append]
      show some (D.int ((0 + 1 * k : Nat) : Int)) = _
      congr 2; omega
    exact (x_ite_f ((x_or_f (x_cmp (x_blt1 (x_v rfl) (lnF _)) (x_blt1 (x_v rfl) ln) c1) rfl).trans (x_cmp (x_v rfl) (x_lst evs0 (Nat.zero_le _)) c2)) rfl).trans (x_ix (x_v rfl) (x_neg x_c) ix)
  | none =>
    rcases ho with ho | ho
    · have e : (List.range' 0 n).filter (fun t => (f t).isSome) = List.range' 0 n := List.filter_eq_self.mpr fun t _ => by
        cases h : f t with
        | some _ => rfl
        | none => exact absurd h (ho t)
      refine Fl _ e ?_
      have c1 : cmpD .eq (.int ((List.range' 0 n).length : Int)) (.int (n : Int)) = some true := by
        rw [List.length_range', eq_natD]; simp
      exact (x_ite_t (x_or_t (x_cmp (x_blt1 (x_v rfl) (lnF _)) (x_blt1 (x_v rfl) ln) c1) rfl) rfl).trans x_c
    · have e : (List.range' 0 n).filter (fun t => (f t).isSome) = [] := List.filter_eq_nil_iff.mpr fun t _ => by
        rw [ho t]; exact Bool.false_ne_true
      refine Fl _ e ?_
      have c1 : cmpD .eq (.int (([] : List Nat).length : Int)) (.int (n : Int)) = some false := by
        rw [eq_natD, beq_eq_false_iff_ne.mpr (by show 0 ≠ n; omega)]
      exact (x_ite_t ((x_or_f (x_cmp (x_blt1 (x_v rfl) (lnF [])) (x_blt1 (x_v rfl) ln) c1) rfl).trans (x_cmp (x_v rfl) (x_lst evs0 (Nat.zero_le _)) (eq_nil []))) rfl).trans x_c
theorem tellsC {d : D} (h : d ∈ oddC) : ∃ r, bltD .repr [d] = some r ∧ hear cs__law_caught "BadNumber" "number" d = some (.lst [.str "number", r]) ∧ cmpD .ne (.lst [.str "number", r]) (.lst [.str "number", r]) = some false := by
  refine ⟨(bltD .repr [d]).getD .non, ?_, ?_, ?_⟩ <;> simp only [oddC, List.mem_cons, List.not_mem_nil, or_false] at h <;> rcases h with rfl | rfl | rfl | rfl | rfl <;> kernel_rfl
theorem pow12 : binD .pow (.int 10) (.int 12) = some (.int ((1000000000000 : Nat) : Int)) := by
  show (if 0 ≤ (12:Int) ∧ (12:Int) ≤ 1000000 ∧ (10:Int).natAbs < 18446744073709551616 then some (D.int ((10:Int) ^ (12:Int).toNat)) else none) = _
  rw [if_pos (by decide)]
  have : (10 : Int) ^ (12 : Int).toNat = ((1000000000000 : Nat) : Int) := by decide
  rw [this]
def bGr : List ST := [.if_ (.cmp .ne (.meth 0 (.v 0) [.v 3]) (.call 2 [.v 1, .v 3])) [.ret (.c (.bl false))] []]
def bOd : List ST := [.if_ (.cmp .ne (.heard cs__law_caught (.meth 0 (.v 0) [.v 4])) (.lst [.c (.str "number"), .blt .repr [.v 4]])) [.ret (.c (.bl false))] []]
theorem s_asked {R : List Rw} (ck : Checked R) (hl : R.length ≤ 6) {B : Nat} (hs : SmR B R) (rep : RepF (toldM R) (val R)) (lt : (toldM R).length ≤ 27) {r : Rw} (hr : (toldM R).getLast? = some r) {n : Nat} (h0 : B + 2 < n) (hn : n ≤ 1000) : f__law_asked_right.sem [dRi (toldM R), .lst (R.map dRw), .lst (valsN (val R) n)] = .ok (.bl true) [] := by
  have hB : BIG = 100000 := rfl
  have b2 : 2 ≤ BIG := by decide
  obtain ⟨hr1, hg⟩ := checked_good ck
  have q0 := s_lvalues rep (by omega) n hn
  have q1 := m_last hr
  have lo := last_told hr1 hg
  have bd : ∀ k, lastM (toldM R) = some k → k + 1 < n := fun k hk => by
    unfold lastM at hk
    rw [hr] at hk
    dsimp only at hk
    have := (told_sm hs).1 r (List.mem_of_getLast? hr)
    split at hk
    · split at hk
      · cases hk; omega
      · cases hk
    · cases hk
  have q2 := s_llast hg (by omega) hn (lastM (toldM R)) lo bd
  have qn : m_Rising___call__.sem [dRi (toldM R), .non] = .ok .non [] := m_call rep (by omega) none
  have ln : bltD .len [.lst (valsN (val R) n)] = some (.int (n : Int)) := by
    show some (D.int ((valsN (val R) n).length : Int)) = _
    rw [valsN_len]
  have dv := data_vals (val R) n
  obtain ⟨X, hX⟩ : ∃ X, valsN (val R) n = X := ⟨_, rfl⟩
  rw [hX] at q0 q2 ln dv ⊢
  obtain ⟨E, hE⟩ : ∃ E : Option Cell → Option Cell → Env, E = fun x3 x4 => [some (.dat (dRi (toldM R))), some (.dat (.lst (R.map dRw))), some (.dat (.lst X)), x3, x4] := ⟨_, rfl⟩
  have st : startE none 5 [dRi (toldM R), D.lst (R.map dRw), .lst X] = E none none := by rw [hE]; rfl
  have v0 : ∀ x3 x4, ev g__law_asked_right (.v 0) (E x3 x4) = .ok (.val (.obj "Rising" ["rows"] [.tup ((toldM R).map dRw)])) (E x3 x4) := fun _ _ => by rw [hE]; exact x_v rfl
  have v1 : ∀ x3 x4, ev g__law_asked_right (.v 1) (E x3 x4) = .ok (.val (.lst (R.map dRw))) (E x3 x4) := fun _ _ => by rw [hE]; exact x_v rfl
  have v2 : ∀ x3 x4, ev g__law_asked_right (.v 2) (E x3 x4) = .ok (.val (.lst X)) (E x3 x4) := fun _ _ => by rw [hE]; exact x_v rfl
  have v3 : ∀ d x4, ev g__law_asked_right (.v 3) (E (some (.dat d)) x4) = .ok (.val d) (E (some (.dat d)) x4) := fun _ _ => by rw [hE]; exact x_v rfl
  have v4 : ∀ x3 d, ev g__law_asked_right (.v 4) (E x3 (some (.dat d))) = .ok (.val d) (E x3 (some (.dat d))) := fun _ _ => by rw [hE]; exact x_v rfl
  have w3 : ∀ x3 x4 d, frC x3 = true → bindT (.name 3) d (E x3 x4) = some (E (some (.dat d)) x4) := fun x3 x4 d h => by rw [hE]; exact bind_nm (x := x3) rfl h
  have w4 : ∀ x3 x4 d, frC x4 = true → bindT (.name 4) d (E x3 x4) = some (E x3 (some (.dat d))) := fun x3 x4 d h => by rw [hE]; exact bind_nm (x := x4) rfl h
  have T1 : evS g__law_asked_right (.if_ (.cmp .ne (.call 0 [.v 0, .blt .len [.v 2]]) (.v 2)) [.ret (.c (.bl false))] []) (E none none) = .nx (E none none) :=
    t_if_f0 (x_cmp (call_ok cl__law_asked_right_0 (evs2 (v0 _ _) (x_blt1 (v2 _ _) ln)) q0) (v2 _ _) (cmp_nself dv))
  have T2 : evS g__law_asked_right (.if_ (.or_ (.cmp .isnot (.meth 0 (.v 0) [.c .non]) (.c .non)) (.cmp .ne (.meth 1 (.v 0) []) (.call 1 [.v 2]))) [.ret (.c (.bl false))] []) (E none none) = .nx (E none none) :=
    t_if_f0 ((x_or_f (x_cmp (meth_ok2 (m := m_Rising___call__) rfl (v0 _ _) ⟨rfl, rfl, rfl⟩ (evs1 x_c) qn) x_c (isnot_dM none)) rfl).trans (x_cmp (meth_ok2 (m := m_Rising_last) rfl (v0 _ _) ⟨rfl, rfl, rfl⟩ evs0 q1) (call_ok cl__law_asked_right_1 (evs1 (v2 _ _)) q2) (cmp_nself (data_dM _))))
  have E3 : evi g__law_asked_right (.seq (.lst [.bin .add (.blt .len [.v 2]) (.c (.int 1000)), .bin .pow (.c (.int 10)) (.c (.int 12))])) (E none none) = .ok ([n + 1000, 1000000000000].map fun t : Nat => D.int (t : Int)) (E none none) := by
    rw [evi, take_okD (x_lst (evs2 (x_bin (x_blt1 (v2 _ _) ln) x_c (show binD .add (.int (n : Int)) (.int 1000) = some (.int ((n + 1000 : Nat) : Int)) from add_nat n 1000)) (x_bin x_c x_c pow12)) b2)]
    rfl
  obtain ⟨e, L3, y3, k3, rfl⟩ := forL_keep (tg := .name 3) (body := fun e => evSs g__law_asked_right bGr e) (fun t : Nat => D.int (t : Int)) (fun env => ∃ y3, frC y3 = true ∧ env = E y3 none) [n + 1000, 1000000000000] (E none none) ⟨none, rfl, rfl⟩ (fun t _ env hi => by
    obtain ⟨y3, k3, rfl⟩ := hi
    have a1 : m_Rising___call__.sem [dRi (toldM R), .int (t : Nat)] = .ok (dM (val R t)) [] := m_call rep (by omega) (some t)
    have a2 := s_lvalue hr1 (by omega) t
    exact ⟨_, _, w3 _ _ _ k3, (ss_nx (t_if_f0 (x_cmp (meth_ok2 (m := m_Rising___call__) rfl (v0 _ _) ⟨rfl, rfl, rfl⟩ (evs1 (v3 _ _)) a1) (call_ok cl__law_asked_right_2 (evs2 (v1 _ _) (v3 _ _)) a2) (cmp_nself (data_dM _))))).trans ss0, some (.dat (.int t)), rfl, rfl⟩)
  have E4 : evi g__law_asked_right (.seq (.lst [.bin .sub (.c (.int 0)) (.c (.int 1)), .c (.bl true), .c (.str "0"), .tup [.c (.int 0)], .bin .sub (.c (.int 0)) (.c (.int 5))])) (E y3 none) = .ok (oddC.map id) (E y3 none) := by
    rw [evi, take_okD (x_lst (evs_cons (x_bin x_c x_c (show binD .sub (.int 0) (.int 1) = some (.int (-1)) from rfl)) (evs_cons x_c (evs3 x_c (x_tup (evs1 x_c) (show 1 ≤ BIG by decide)) (x_bin x_c x_c (show binD .sub (.int 0) (.int 5) = some (.int (-5)) from rfl))))) (show 5 ≤ BIG by decide))]
    rfl
  obtain ⟨e, L4, y4, k4, rfl⟩ := forL_keep (tg := .name 4) (body := fun e => evSs g__law_asked_right bOd e) (id : D → D) (fun env => ∃ y4, frC y4 = true ∧ env = E y3 y4) oddC (E y3 none) ⟨none, rfl, rfl⟩ (fun z hz env hi => by
    obtain ⟨y4, k4, rfl⟩ := hi
    obtain ⟨r, t1, t2, t3⟩ := tellsC hz
    have q := m_call_odd (toldM R) hz
    exact ⟨_, _, w4 _ _ _ k4, (ss_nx (t_if_f0 (x_cmp (heard_exc (meth_exc (m := m_Rising___call__) rfl (v0 _ _) ⟨rfl, rfl, rfl⟩ (evs1 (v4 _ _)) q) t2) (x_lst (evs2 x_c (x_blt1 (v4 _ _) t1)) b2) t3))).trans ss0, some (.dat z), rfl, rfl⟩)
  show semB g__law_asked_right 5 none b__law_asked_right [dRi (toldM R), .lst (R.map dRw), .lst X] = _
  refine sem_rt (e := E y3 y4) ?_
  rw [st]
  exact (ss_nx T1).trans ((ss_nx T2).trans ((ss_nx (t_for (b := bGr) E3 L3)).trans ((ss_nx (t_for (b := bOd) E4 L4)).trans (ss_rt (t_ret x_c)))))
end Mp
set_option maxHeartbeats 4000000
namespace Mp
open PySem L2
variable [TabsW] [GdW]
def FirstP (P : Nat → Bool) (o : Option Nat) : Prop := match o with
  | some m => P m = true ∧ ∀ k, k < m → P k = false
  | none => ∀ k, P k = false
theorem FirstP.none_iff {P : Nat → Bool} {o : Option Nat} (h : FirstP P o) : o = none ↔ ∀ k, P k = false := by
  cases o with
  | none => exact ⟨fun _ => h, fun _ => rfl⟩
  | some m => exact ⟨(fun h => nomatch h), fun z => by have := h.1; rw [z m] at this; cases this⟩
theorem les_first {f g : Nat → Option Nat} {o1 o2 : Option Nat} (h1 : FirstP (fun m => ltM (g m) (f m)) o1) (h2 : FirstP (fun m => ltM (f m) (g m)) o2) : FirstP (fun m => !(f m == g m)) (lesM o1 o2) := by
  have no : ∀ k, ltM (g k) (f k) = false → ltM (f k) (g k) = false → (!(f k == g k)) = false := fun k a b => by
    rw [ltM_eq b a]; simp
  have ye : ∀ k, ltM (g k) (f k) = true ∨ ltM (f k) (g k) = true → (!(f k == g k)) = true := fun k h => by
    by_cases e : f k = g k
    · rw [e, ltM_irr] at h
      rcases h with h | h <;> cases h
    · simp [e]
  cases o1 with
  | none =>
    cases o2 with
    | none => exact fun k => no k (h1 k) (h2 k)
    | some m => exact ⟨ye m (.inr h2.1), fun k hk => no k (h1 k) (h2.2 k hk)⟩
  | some a =>
    cases o2 with
    | none => exact ⟨ye a (.inl h1.1), fun k hk => no k (h1.2 k hk) (h2 k)⟩
    | some b =>
      by_cases hab : b < a
      · have e : lesM (some a) (some b) = some b := by
          unfold lesM
          rw [show ltM (some b) (some a) = true from decide_eq_true hab]; rfl
        rw [e]
        exact ⟨ye b (.inr h2.1), fun k hk => no k (h1.2 k (by omega)) (h2.2 k hk)⟩
      · have e : lesM (some a) (some b) = some a := by
          unfold lesM
          rw [show ltM (some b) (some a) = false from decide_eq_false hab]; rfl
        rw [e]
        exact ⟨ye a (.inl h1.1), fun k hk => no k (h1.2 k hk) (h2.2 k (by omega))⟩
theorem sm_last {R : List Rw} (h : Checked R) {r : Rw} (hr : R.getLast? = some r) : SmR r.s R := by
  have st := checked_st h
  rcases List.eq_nil_or_concat R with rfl | ⟨A, a, rfl⟩
  · cases hr
  · rw [List.concat_eq_append] at *
    have : (A ++ [a]).getLast? = some a := by simp
    rw [this] at hr
    have e : a = r := Option.some.inj hr
    rw [← e]
    intro q hq
    rcases List.mem_append.mp hq with hq | hq
    · have := (List.pairwise_append.mp st).2.2 q hq a (by simp)
      show q.s ≤ a.s
      omega
    · rw [List.mem_singleton.mp hq]; exact Nat.le_refl _
theorem last_ex {R : List Rw} {f : Nat → Option Nat} (h : RepF R f) : ∃ r, R.getLast? = some r := by
  cases hq : R.getLast? with
  | none => rw [List.getLast?_eq_none_iff] at hq; have := h.z; rw [hq] at this; cases this
  | some r => exact ⟨r, rfl⟩
theorem tail_lt {R S : List Rw} (hR : Checked R) (hS : Checked S) {B : Nat} (h1 : SmR B R) (h2 : SmR B S) : ∀ m, B ≤ m → ltM (val S m) (val R m) = ltM (val S B) (val R B) := fun m hm => by
  rw [val_tail hR h1 m hm, val_tail hS h2 m hm, ltM_add]
theorem tail_ne {R S : List Rw} (hR : Checked R) (hS : Checked S) {B : Nat} (h1 : SmR B R) (h2 : SmR B S) : ∀ m, B ≤ m → (!(val R m == val S m)) = (!(val R B == val S B)) := fun m hm => by
  rw [val_tail hR h1 m hm, val_tail hS h2 m hm]
  cases val R B with
  | none => cases val S B <;> rfl
  | some a =>
    cases val S B with
    | none => rfl
    | some b =>
      show (!(some (a + (m - B)) == some (b + (m - B)))) = (!(some a == some b))
      congr 1
      rw [Bool.eq_iff_iff]
      simp
theorem head_ite {G : Ctx} {i : Nat} {E : Env} {F : List Nat} (h : ev G (.v i) E = .ok (.val (.lst (F.map fun n : Nat => D.int (n : Int)))) E) : ev G (.ite (.cmp .ne (.v i) (.lst [])) (.ix (.v i) (.c (.int 0))) (.c .non)) E = .ok (.val (dM F.head?)) E := by
  have C := x_cmp h (x_lst (G := G) (E := E) evs0 (Nat.zero_le _)) (ne_nilN F)
  cases F with
  | nil => exact (x_ite_f C rfl).trans x_c
  | cons n F => exact (x_ite_t C rfl).trans (x_ix h x_c (show atI ((n :: F).map fun n : Nat => D.int (n : Int)) ((0 : Nat) : Int) = some (D.int (n : Int)) from at_map (fun n : Nat => D.int (n : Int)) (n :: F) 0 n rfl))
def envL (X : D) (k : Nat) (s : List D) (R S : List Rw) (n : Nat) (x6 x7 x8 x9 x10 x13 : Option Cell) : Env := [some (.dat X), some (.dat (.int k)), some (.own s), some (.dat (.lst (R.map dRw))), some (.dat (.lst (S.map dRw))), some (.dat (.int n)), x6, x7, x8, x9, x10, some (.dat (dRi (toldM R))), some (.dat (dRi (toldM S))), x13]
def bQ : List ST := [.if_ (.cmp .ne (.heard cs__law_caught (.call 7 [.v 11, .v 10])) (.lst [.c (.str "part"), .c (.str "maps")])) [.ret (.c (.bl false))] [], .if_ (.cmp .ne (.heard cs__law_caught (.call 8 [.v 10, .v 11])) (.lst [.c (.str "part"), .c (.str "maps")])) [.ret (.c (.bl false))] []]
def bB : List ST := [.asg (.name 6) (.lc (.name 13) (.rng1 (.v 5)) none (.call 4 [.v 3, .v 13]) [13]), .asg (.name 7) (.lc (.name 13) (.rng1 (.v 5)) none (.call 4 [.v 4, .v 13]) [13]), .if_ (.not_ (.call 5 [.v 11, .v 3, .v 6])) [.ret (.c (.bl false))] [], .if_ (.not_ (.call 5 [.v 12, .v 4, .v 7])) [.ret (.c (.bl false))] [], .asg (.name 8) (.lc (.name 13) (.rng1 (.v 5)) (some (.cmp .ne (.ix (.v 6) (.v 13)) (.ix (.v 7) (.v 13)))) (.v 13) [13]), .asg (.name 9) (.lc (.name 13) (.rng1 (.v 5)) (some (.call 6 [.ix (.v 6) (.v 13), .ix (.v 7) (.v 13)])) (.v 13) [13]), .if_ (.or_ (.cmp .ne (.oeq false 0 (.v 11) (.v 12)) (.cmp .eq (.v 8) (.lst []))) (.cmp .ne (.ocmp 1 (.v 11) (.v 12)) (.cmp .eq (.v 9) (.lst [])))) [.ret (.c (.bl false))] [], .if_ (.cmp .ne (.call 7 [.v 11, .v 12]) (.ite (.cmp .ne (.v 8) (.lst [])) (.ix (.v 8) (.c (.int 0))) (.c .non))) [.ret (.c (.bl false))] [], .if_ (.cmp .ne (.call 8 [.v 11, .v 12]) (.ite (.cmp .ne (.v 9) (.lst [])) (.ix (.v 9) (.c (.int 0))) (.c .non))) [.ret (.c (.bl false))] [], .if_ (.or_ (.oeq false 0 (.v 11) (.v 3)) (.oeq false 0 (.v 11) (.c (.int 5)))) [.ret (.c (.bl false))] [], .for_ (.name 10) (.seq (.lst [.c .non, .v 3, .c (.int 5)])) bQ]
theorem near_run {X : D} {k : Nat} {s : List D} {R S : List Rw} {n : Nat} {x6 x7 x8 x9 x10 x13 : Option Cell} (j : Nat) (T : List Rw) (hj : (envL X k s R S n x6 x7 x8 x9 x10 x13)[j]? = some (some (.dat (.lst (T.map dRw))))) (hj13 : j ≠ 13) (rep : RepF T (val T)) (hl : T.length ≤ 10000) (hn : n ≤ 1000) (h13 : x13 = none) : ev g_law (.lc (.name 13) (.rng1 (.v 5)) none (.call 4 [.v j, .v 13]) [13]) (envL X k s R S n x6 x7 x8 x9 x10 x13) = .ok (.val (.lst (valsN (val T) n))) (envL X k s R S n x6 x7 x8 x9 x10 x13) := by
  have hB : BIG = 100000 := rfl
  refine ev_lc_map (G := g_law) (i := 13) (l := List.range' 0 n) (f := fun t : Nat => D.int (t : Int)) (g := fun t => dM (val T t)) (evi_rng1 (x_v rfl) (by omega)) (by rw [List.length_range']; omega) (by rw [h13]; rfl) (show 13 < 14 by decide) fun t _ => take_okD (call_ok cl_law_4 (evs2 (x_v ?_) (x_v rfl)) (s_lvalue rep hl t))
  rw [List.getElem?_set_ne (Ne.symm hj13)]
  exact hj
theorem filt_run {X : D} {k : Nat} {s : List D} {R S : List Rw} {n : Nat} {f g : Nat → Option Nat} {x8 x9 x10 x13 : Option Cell} {t : IR} (P : Nat → Bool) (hn : n ≤ 1000) (h13 : x13 = none) (hT : ∀ m, m < n → truR (ev g_law t (envL X k s R S n (some (.dat (.lst (valsN f n)))) (some (.dat (.lst (valsN g n)))) x8 x9 x10 (some (.dat (.int (m : Nat)))))) = .ok (P m) (envL X k s R S n (some (.dat (.lst (valsN f n)))) (some (.dat (.lst (valsN g n)))) x8 x9 x10 (some (.dat (.int (m : Nat)))))) : ev g_law (.lc (.name 13) (.rng1 (.v 5)) (some t) (.v 13) [13]) (envL X k s R S n (some (.dat (.lst (valsN f n)))) (some (.dat (.lst (valsN g n)))) x8 x9 x10 x13) = .ok (.val (.lst (((List.range' 0 n).filter P).map fun m : Nat => D.int (m : Int)))) (envL X k s R S n (some (.dat (.lst (valsN f n)))) (some (.dat (.lst (valsN g n)))) x8 x9 x10 x13) := by
  have hB : BIG = 100000 := rfl
  exact ev_lc_filt (G := g_law) (i := 13) (l := List.range' 0 n) (f := fun t : Nat => D.int (t : Int)) (g := fun t : Nat => D.int (t : Int)) P (evi_rng1 (x_v rfl) (by omega)) (by rw [List.length_range']; omega) (by rw [h13]; rfl) (show 13 < 14 by decide) (fun m hm => hT m (by have := List.mem_range'_1.mp hm; omega)) (fun m _ _ => take_okD (x_v rfl))
theorem heard_part {d : D} : hear cs__law_caught "BadPart" "part" d = some (.lst [.str "part", d]) := by
  have : hear cs__law_caught "BadPart" "part" d = some (.lst [.str "part", d]) := rfl
  exact this
theorem ne_part : cmpD .ne (.lst [.str "part", .str "maps"]) (.lst [.str "part", .str "maps"]) = some false := by kernel_rfl
/-- what is asked of two maps, once they are made -/
theorem b_turn (X : D) (k : Nat) (s : List D) {R S : List Rw} {r q : Rw} (cR : Checked R) (cS : Checked S) (lR : R.length ≤ 6) (lS : S.length ≤ 6) (sR : SmR 100 R) (sS : SmR 100 S) (hr : R.getLast? = some r) (hq : S.getLast? = some q) (x6 x7 x8 x9 x10 x13 : Option Cell) (h6 : frC x6 = true) (h7 : frC x7 = true) (h8 : frC x8 = true) (h9 : frC x9 = true) (h10 : frC x10 = true) (h13 : x13 = none) :
    ∃ y6 y7 y8 y9 y10, (frC y6 = true ∧ frC y7 = true ∧ frC y8 = true ∧ frC y9 = true ∧ frC y10 = true) ∧ evSs g_law bB (envL X k s R S (5 + max r.s q.s + 12) x6 x7 x8 x9 x10 x13) = .nx (envL X k s R S (5 + max r.s q.s + 12) y6 y7 y8 y9 y10 x13) := by
  have hB : BIG = 100000 := rfl
  have b2 : 2 ≤ BIG := by decide
  obtain ⟨rR, gR⟩ := checked_good cR
  obtain ⟨rS, gS⟩ := checked_good cS
  have tR := told_rep rR
  have tS := told_rep rS
  have kR : (toldM R).length ≤ 27 := by have := (told_sm sR).2; omega
  have kS : (toldM S).length ≤ 27 := by have := (told_sm sS).2; omega
  have mR := sm_last cR hr
  have mS := sm_last cS hq
  obtain ⟨M, hM⟩ : ∃ M, max r.s q.s = M := ⟨_, rfl⟩
  have bR : SmR M R := fun p hp => by have := mR p hp; omega
  have bS : SmR M S := fun p hp => by have := mS p hp; omega
  have rs : r.s ≤ 100 := sR r (List.mem_of_getLast? hr)
  have qs : q.s ≤ 100 := sS q (List.mem_of_getLast? hq)
  rw [hM]
  obtain ⟨n, hn⟩ : ∃ n, 5 + M + 12 = n := ⟨_, rfl⟩
  rw [hn]
  have hn1 : n ≤ 1000 := by omega
  obtain ⟨r', hr'⟩ := last_ex tR
  obtain ⟨q', hq'⟩ := last_ex tS
  have a1 := s_asked cR lR bR tR kR hr' (n := n) (by omega) hn1
  have a2 := s_asked cS lS bS tS kS hq' (n := n) (by omega) hn1
  have o1 : FirstP (fun m => ltM (val S m) (val R m)) (overGo (toldM R) (toldM S) (stsM (toldM R) (toldM S))) := over_all tR tS
  have o2 : FirstP (fun m => ltM (val R m) (val S m)) (overGo (toldM S) (toldM R) (stsM (toldM S) (toldM R))) := over_all tS tR
  have le := les_first o1 o2
  have u := s_unlike tR tS kR kS
  have ab := s_above tR tS kR kS
  have leq := m_le tR tS kR kS
  have me := m_eq (toldM R) (toldM S)
  have meq : decide (toldM R = toldM S) = (lesM (overGo (toldM R) (toldM S) (stsM (toldM R) (toldM S))) (overGo (toldM S) (toldM R) (stsM (toldM S) (toldM R))) == none) := by
    rw [Bool.eq_iff_iff, decide_eq_true_iff, told_iff rR rS, beq_iff_eq, le.none_iff]
    constructor
    · intro h k; rw [h k]; simp
    · intro h k
      have := h k
      by_cases e : val R k = val S k
      · exact e
      · simp [e] at this
  generalize overGo (toldM R) (toldM S) (stsM (toldM R) (toldM S)) = p1 at *
  generalize lesM p1 (overGo (toldM S) (toldM R) (stsM (toldM S) (toldM R))) = p2 at *
  obtain ⟨f1, f2⟩ := first_filt _ (by omega : M < n) (tail_ne cR cS bR bS) p2 le
  obtain ⟨f3, f4⟩ := first_filt _ (by omega : M < n) (tail_lt cR cS bR bS) p1 o1
  obtain ⟨U, hU⟩ : ∃ U, (List.range' 0 n).filter (fun m => !(val R m == val S m)) = U := ⟨_, rfl⟩
  obtain ⟨A, hA⟩ : ∃ A, (List.range' 0 n).filter (fun m => ltM (val S m) (val R m)) = A := ⟨_, rfl⟩
  rw [hU] at f1 f2
  rw [hA] at f3 f4
  have eU : (p2 == none) = U.isEmpty := by
    rw [Bool.eq_iff_iff, beq_iff_eq, f2, List.isEmpty_iff]
  have eA : (p1 == none) = A.isEmpty := by
    rw [Bool.eq_iff_iff, beq_iff_eq, f4, List.isEmpty_iff]
  rw [meq, eU] at me
  rw [eA] at leq
  have T1 : evS g_law (.asg (.name 6) (.lc (.name 13) (.rng1 (.v 5)) none (.call 4 [.v 3, .v 13]) [13])) (envL X k s R S n x6 x7 x8 x9 x10 x13) = .nx (envL X k s R S n (some (.dat (.lst (valsN (val R) n)))) x7 x8 x9 x10 x13) :=
    t_asg (near_run 3 R rfl (by decide) rR (by omega) hn1 h13) (bind_nm (x := x6) rfl h6)
  have T2 : evS g_law (.asg (.name 7) (.lc (.name 13) (.rng1 (.v 5)) none (.call 4 [.v 4, .v 13]) [13])) (envL X k s R S n (some (.dat (.lst (valsN (val R) n)))) x7 x8 x9 x10 x13) = .nx (envL X k s R S n (some (.dat (.lst (valsN (val R) n)))) (some (.dat (.lst (valsN (val S) n)))) x8 x9 x10 x13) :=
    t_asg (near_run 4 S rfl (by decide) rS (by omega) hn1 h13) (bind_nm (x := x7) rfl h7)
  have T3 : evS g_law (.if_ (.not_ (.call 5 [.v 11, .v 3, .v 6])) [.ret (.c (.bl false))] []) (envL X k s R S n (some (.dat (.lst (valsN (val R) n)))) (some (.dat (.lst (valsN (val S) n)))) x8 x9 x10 x13) = .nx (envL X k s R S n (some (.dat (.lst (valsN (val R) n)))) (some (.dat (.lst (valsN (val S) n)))) x8 x9 x10 x13) :=
    t_if_f0 (x_notb (b := true) (call_ok cl_law_5 (evs3 (x_v rfl) (x_v rfl) (x_v rfl)) a1))
  have T4 : evS g_law (.if_ (.not_ (.call 5 [.v 12, .v 4, .v 7])) [.ret (.c (.bl false))] []) (envL X k s R S n (some (.dat (.lst (valsN (val R) n)))) (some (.dat (.lst (valsN (val S) n)))) x8 x9 x10 x13) = .nx (envL X k s R S n (some (.dat (.lst (valsN (val R) n)))) (some (.dat (.lst (valsN (val S) n)))) x8 x9 x10 x13) :=
    t_if_f0 (x_notb (b := true) (call_ok cl_law_5 (evs3 (x_v rfl) (x_v rfl) (x_v rfl)) a2))
  have T5 : evS g_law (.asg (.name 8) (.lc (.name 13) (.rng1 (.v 5)) (some (.cmp .ne (.ix (.v 6) (.v 13)) (.ix (.v 7) (.v 13)))) (.v 13) [13])) (envL X k s R S n (some (.dat (.lst (valsN (val R) n)))) (some (.dat (.lst (valsN (val S) n)))) x8 x9 x10 x13) = .nx (envL X k s R S n (some (.dat (.lst (valsN (val R) n)))) (some (.dat (.lst (valsN (val S) n)))) (some (.dat (.lst (U.map fun m : Nat => D.int (m : Int))))) x9 x10 x13) := by
    rw [← hU]
    exact t_asg (filt_run (fun m => !(val R m == val S m)) hn1 h13 fun m hm => tru_valB (x_cmp (x_ix (x_v rfl) (x_v rfl) (vals_at _ hm)) (x_ix (x_v rfl) (x_v rfl) (vals_at _ hm)) (cmp_ndM _ _)) rfl) (bind_nm (x := x8) rfl h8)
  obtain ⟨Z8, hZ8⟩ : ∃ Z, some (Cell.dat (.lst (U.map fun m : Nat => D.int (m : Int)))) = Z := ⟨_, rfl⟩
  have T6 : evS g_law (.asg (.name 9) (.lc (.name 13) (.rng1 (.v 5)) (some (.call 6 [.ix (.v 6) (.v 13), .ix (.v 7) (.v 13)])) (.v 13) [13])) (envL X k s R S n (some (.dat (.lst (valsN (val R) n)))) (some (.dat (.lst (valsN (val S) n)))) (some (.dat (.lst (U.map fun m : Nat => D.int (m : Int))))) x9 x10 x13) = .nx (envL X k s R S n (some (.dat (.lst (valsN (val R) n)))) (some (.dat (.lst (valsN (val S) n)))) (some (.dat (.lst (U.map fun m : Nat => D.int (m : Int))))) (some (.dat (.lst (A.map fun m : Nat => D.int (m : Int))))) x10 x13) := by
    rw [← hA]
    exact t_asg (filt_run (fun m => ltM (val S m) (val R m)) hn1 h13 fun m hm => tru_valB (call_ok cl_law_6 (evs2 (x_ix (x_v rfl) (x_v rfl) (vals_at _ hm)) (x_ix (x_v rfl) (x_v rfl) (vals_at _ hm))) (s_labove _ _)) rfl) (bind_nm (x := x9) rfl h9)
  obtain ⟨Y6, hY6⟩ : ∃ Z, some (Cell.dat (.lst (valsN (val R) n))) = Z := ⟨_, rfl⟩
  obtain ⟨Y7, hY7⟩ : ∃ Z, some (Cell.dat (.lst (valsN (val S) n))) = Z := ⟨_, rfl⟩
  have f6 : frC Y6 = true := by rw [← hY6]; rfl
  have f7 : frC Y7 = true := by rw [← hY7]; rfl
  rw [hY6, hY7] at T6 T5 T4 T3 T2
  rw [hY6] at T1
  clear hY6 hY7 a1 a2
  obtain ⟨E, hE⟩ : ∃ E : Option Cell → Env, (fun y10 => envL X k s R S n Y6 Y7 (some (.dat (.lst (U.map fun m : Nat => D.int (m : Int))))) (some (.dat (.lst (A.map fun m : Nat => D.int (m : Int))))) y10 x13) = E := ⟨_, rfl⟩
  have hE' : ∀ y, envL X k s R S n Y6 Y7 (some (.dat (.lst (U.map fun m : Nat => D.int (m : Int))))) (some (.dat (.lst (A.map fun m : Nat => D.int (m : Int))))) y x13 = E y := fun y => congrFun hE y
  have v11 : ∀ y, ev g_law (.v 11) (E y) = .ok (.val (.obj "Rising" ["rows"] [.tup ((toldM R).map dRw)])) (E y) := fun y => by rw [← hE' y]; exact x_v rfl
  have v12 : ∀ y, ev g_law (.v 12) (E y) = .ok (.val (.obj "Rising" ["rows"] [.tup ((toldM S).map dRw)])) (E y) := fun y => by rw [← hE' y]; exact x_v rfl
  have v3 : ∀ y, ev g_law (.v 3) (E y) = .ok (.val (.lst (R.map dRw))) (E y) := fun y => by rw [← hE' y]; exact x_v rfl
  have v8 : ∀ y, ev g_law (.v 8) (E y) = .ok (.val (.lst (U.map fun m : Nat => D.int (m : Int)))) (E y) := fun y => by rw [← hE' y]; exact x_v rfl
  have v9 : ∀ y, ev g_law (.v 9) (E y) = .ok (.val (.lst (A.map fun m : Nat => D.int (m : Int)))) (E y) := fun y => by rw [← hE' y]; exact x_v rfl
  have v10 : ∀ d, ev g_law (.v 10) (E (some (.dat d))) = .ok (.val d) (E (some (.dat d))) := fun d => by rw [← hE']; exact x_v rfl
  have w10 : ∀ y d, frC y = true → bindT (.name 10) d (E y) = some (E (some (.dat d))) := fun y d h => by rw [← hE', ← hE']; exact bind_nm (x := y) rfl h
  have OE := x_oeq (neg := false) (m := m_Rising___eq__) (j := 0) (G := g_law) rfl (v11 x10) (v12 x10) ⟨rfl, rfl, rfl⟩ me
  have OC := x_ocmp (m := m_Rising___le__) (j := 1) (G := g_law) rfl (v11 x10) (v12 x10) ⟨rfl, rfl, rfl⟩ leq
  rw [Bool.false_xor] at OE
  have nil8 : ev g_law (.lst []) (E x10) = .ok (.val (.lst [])) (E x10) := x_lst evs0 (Nat.zero_le _)
  have T7 : evS g_law (.if_ (.or_ (.cmp .ne (.oeq false 0 (.v 11) (.v 12)) (.cmp .eq (.v 8) (.lst []))) (.cmp .ne (.ocmp 1 (.v 11) (.v 12)) (.cmp .eq (.v 9) (.lst [])))) [.ret (.c (.bl false))] []) (E x10) = .nx (E x10) :=
    t_if_f0 ((x_or_f (x_cmp OE (x_cmp (v8 _) nil8 (eq_nil U)) (cmp_nself dataD_bl)) rfl).trans (x_cmp OC (x_cmp (v9 _) nil8 (eq_nil A)) (cmp_nself dataD_bl)))
  rw [← f1] at u
  rw [← f3] at ab
  have T8 : evS g_law (.if_ (.cmp .ne (.call 7 [.v 11, .v 12]) (.ite (.cmp .ne (.v 8) (.lst [])) (.ix (.v 8) (.c (.int 0))) (.c .non))) [.ret (.c (.bl false))] []) (E x10) = .nx (E x10) :=
    t_if_f0 (x_cmp (call_ok cl_law_7 (evs2 (v11 _) (v12 _)) u) (head_ite (v8 _)) (cmp_nself (data_dM _)))
  have T9 : evS g_law (.if_ (.cmp .ne (.call 8 [.v 11, .v 12]) (.ite (.cmp .ne (.v 9) (.lst [])) (.ix (.v 9) (.c (.int 0))) (.c .non))) [.ret (.c (.bl false))] []) (E x10) = .nx (E x10) :=
    t_if_f0 (x_cmp (call_ok cl_law_8 (evs2 (v11 _) (v12 _)) ab) (head_ite (v9 _)) (cmp_nself (data_dM _)))
  have T10 : evS g_law (.if_ (.or_ (.oeq false 0 (.v 11) (.v 3)) (.oeq false 0 (.v 11) (.c (.int 5)))) [.ret (.c (.bl false))] []) (E x10) = .nx (E x10) :=
    t_if_f0 ((x_or_f (x_oeq (neg := false) (m := m_Rising___eq__) rfl (v11 x10) (v3 x10) ⟨rfl, rfl, rfl⟩ (m_eq_lst (toldM R) (R.map dRw))) rfl).trans (x_oeq (neg := false) (m := m_Rising___eq__) rfl (v11 x10) x_c ⟨rfl, rfl, rfl⟩ (m_eq_int (toldM R) 5)))
  have E11 : evi g_law (.seq (.lst [.c .non, .v 3, .c (.int 5)])) (E x10) = .ok (([.non, .lst (R.map dRw), .int 5] : List D).map id) (E x10) := by
    rw [evi, take_okD (x_lst (evs3 x_c (v3 _) x_c) (show 3 ≤ BIG by decide))]
    rfl
  obtain ⟨e, L11, y10, k10, rfl⟩ := forL_keep (tg := .name 10) (body := fun e => evSs g_law bQ e) (id : D → D) (fun env => ∃ y, frC y = true ∧ env = E y) [.non, .lst (R.map dRw), .int 5] (E x10) ⟨x10, h10, rfl⟩ (fun z hz env hi => by
    obtain ⟨y, ky, rfl⟩ := hi
    have oz : OddM R z := by
      simp only [List.mem_cons, List.not_mem_nil, or_false] at hz
      exact hz
    have c1 := unlike_odd (toldM R) oz
    have c2 := above_odd (toldM R) oz
    exact ⟨_, _, w10 _ _ ky, (ss_nx (t_if_f0 (x_cmp (heard_exc (call_exc cl_law_7 (evs2 (v11 _) (v10 _)) c1) heard_part) (x_lst (evs2 x_c x_c) b2) ne_part))).trans ((ss_nx (t_if_f0 (x_cmp (heard_exc (call_exc cl_law_8 (evs2 (v10 _) (v11 _)) c2) heard_part) (x_lst (evs2 x_c x_c) b2) ne_part))).trans ss0), some (.dat z), rfl, rfl⟩)
  refine ⟨Y6, Y7, some (.dat (.lst (U.map fun m : Nat => D.int (m : Int)))), some (.dat (.lst (A.map fun m : Nat => D.int (m : Int)))), y10, ⟨f6, f7, rfl, rfl, k10⟩, (ss_nx T1).trans ((ss_nx T2).trans ((ss_nx T3).trans ((ss_nx T4).trans ((ss_nx T5).trans ((ss_nx T6).trans ?_)))))⟩
  rw [hE' x10, hE' y10]
  exact (ss_nx T7).trans ((ss_nx T8).trans ((ss_nx T9).trans ((ss_nx T10).trans ((ss_nx (t_for (b := bQ) E11 L11)).trans ss0))))
end Mp
set_option maxHeartbeats 4000000
namespace Mp
open PySem L2
variable [TabsW] [GdW]
theorem t_newc {G : Ctx} {i j : Nat} {es : List IR} {E E1 : Env} {f : Fn} {vs ds : List D} {out : List D} {x : Option Cell} (hf : G.frs[j]? = some f) (hn : es.length = f.n) (he : evs G es E = .ok vs E1) (hs : f.sem vs = .ok (.lst ds) out) (hl : ds.length ≤ BIG) (hi : E1[i]? = some x) (hx : frC x = true) : evS G (.new i (.call j es)) E = .nx (E1.set i (some (.own ds))) := by
  rw [evS, evL, hf]
  dsimp only
  rw [if_pos hn, he, R.bind_ok, hs]
  have hfr : freeB E1 i = true := by rw [freeB_eq, hi]; exact hx
  exact if_pos ⟨hl, hfr⟩
/-- a map of drawn rows -/
theorem made {R : List Rw} (ck : Checked R) (hl : R.length ≤ 6) (hs : SmR 100 R) : k_Rising.sem [.lst (R.map dRw)] = .ok .non [.tup ((toldM R).map dRw)] ∧ MapR (toldM R) (val R) 20000 27 ∧ RepF R (val R) ∧ Good (val R) := by
  obtain ⟨h1, h2⟩ := checked_good ck
  have L : letR R = true := let_of (chain_of _ ck.al ck.be ck.en) ck.z (by omega) (fun r hr => by have := hs r hr; omega)
  obtain ⟨t1, t2⟩ := told_sm hs
  exact ⟨k_rows R L, ⟨told_rep h1, h2, fun r hr => by have := t1 r hr; omega, by omega⟩, h1, h2⟩
def bLawT : List ST := [.new 2 (.call 0 [.v 0, .v 1]), .asg (.name 3) (.call 1 [.v 2]), .asg (.name 4) (.call 2 [.v 2, .lst [.call 1 [.v 2], .call 3 [.v 2, .v 3]]]), .asg (.name 5) (.bin .add (.bin .add (.c (.int 5)) (.blt .max2 [.blt .int [.ix (.ix (.v 3) (.neg (.c (.int 1)))) (.c (.int 0))], .blt .int [.ix (.ix (.v 4) (.neg (.c (.int 1)))) (.c (.int 0))]])) (.c (.int 12))), .asg (.tup [11, 12]) (.tup [.make 0 [.v 3], .make 0 [.v 4]])] ++ bB
theorem law_turn (ns : List Int) (k : Nat) (hk : k < 100) (x2 x3 x4 x5 x6 x7 x8 x9 x10 x11 x12 : Option Cell) (h2 : frC x2 = true) (h3 : frC x3 = true) (h4 : frC x4 = true) (h5 : frC x5 = true) (h6 : frC x6 = true) (h7 : frC x7 = true) (h8 : frC x8 = true) (h9 : frC x9 = true) (h10 : frC x10 = true) (h11 : frC x11 = true) (h12 : frC x12 = true) : ∃ y2 y3 y4 y5 y6 y7 y8 y9 y10 y11 y12, (frC y2 = true ∧ frC y3 = true ∧ frC y4 = true ∧ frC y5 = true ∧ frC y6 = true ∧ frC y7 = true ∧ frC y8 = true ∧ frC y9 = true ∧ frC y10 = true ∧ frC y11 = true ∧ frC y12 = true) ∧
    evSs g_law bLawT [some (.dat (.lst (ns.map .int))), some (.dat (.int k)), x2, x3, x4, x5, x6, x7, x8, x9, x10, x11, x12, none] = .nx [some (.dat (.lst (ns.map .int))), some (.dat (.int k)), y2, y3, y4, y5, y6, y7, y8, y9, y10, y11, y12, none] := by
  have hBg : BIG = 100000 := rfl
  have b2 : 2 ≤ BIG := by decide
  obtain ⟨a, b, c0⟩ := s_pool ns k hk
  obtain ⟨X, hX⟩ : ∃ X, D.lst (ns.map D.int) = X := ⟨_, rfl⟩
  rw [hX] at c0 ⊢
  clear hX
  have T1 : evS g_law (.new 2 (.call 0 [.v 0, .v 1])) [some (.dat X), some (.dat (.int k)), x2, x3, x4, x5, x6, x7, x8, x9, x10, x11, x12, none] = .nx [some (.dat X), some (.dat (.int k)), some (.own (src a b)), x3, x4, x5, x6, x7, x8, x9, x10, x11, x12, none] :=
    t_newc (f := f__law_pool) rfl rfl (evs2 (x_v rfl) (x_v rfl)) c0 (show 2 ≤ BIG by omega) (x := x2) rfl h2
  obtain ⟨A, r, v, a1, b1, dA, ckR, lR, sR, c1⟩ := s_lrows2 a b
  obtain ⟨A2, r2, v2, a2, b2', dA2, ckR2, lR2, sR2, c2⟩ := s_lrows2 a1 b1
  obtain ⟨T, a3, b3, ckT, lT, sT, c3⟩ := s_turned a2 b2' dA ckR lR sR
  obtain ⟨R, hR⟩ : ∃ R, A ++ [r] = R := ⟨_, rfl⟩
  have hr : R.getLast? = some r := by rw [← hR]; simp
  rw [hR] at ckR lR sR c1 c3
  obtain ⟨d, a4, b4, hd, c4⟩ := s_one a3 b3 [.lst ((A2 ++ [r2]).map dRw), .lst (T.map dRw)] (Nat.succ_pos _) (show 2 < 1073741824 by decide)
  obtain ⟨S, rfl, ckS, lS, sS⟩ : ∃ S : List Rw, d = .lst (S.map dRw) ∧ Checked S ∧ S.length ≤ 6 ∧ SmR 100 S := by
    simp only [List.mem_cons, List.not_mem_nil, or_false] at hd
    rcases hd with rfl | rfl
    · exact ⟨_, rfl, ckR2, lR2, sR2⟩
    · exact ⟨_, rfl, ckT, lT, sT⟩
  obtain ⟨kR, MR, rR, gR⟩ := made ckR lR sR
  obtain ⟨kS, MS, rS, gS⟩ := made ckS lS sS
  obtain ⟨q, hq⟩ := last_ex rS
  have ixr := last_rw (Sq.l (R.map dRw)) hr
  have ixq := last_rw (Sq.l (S.map dRw)) hq
  have T2 : evS g_law (.asg (.name 3) (.call 1 [.v 2])) [some (.dat X), some (.dat (.int k)), some (.own (src a b)), x3, x4, x5, x6, x7, x8, x9, x10, x11, x12, none] = .nx [some (.dat X), some (.dat (.int k)), some (.own (src a1 b1)), some (.dat (.lst (R.map dRw))), x4, x5, x6, x7, x8, x9, x10, x11, x12, none] :=
    t_asg (own_call (env := [some (.dat X), some (.dat (.int k)), some (.own (src a b)), x3, x4, x5, x6, x7, x8, x9, x10, x11, x12, none]) rfl rfl rfl rfl evs0 rfl c1) (bind_nm (x := x3) rfl h3)
  have K2 := own_call (G := g_law) (j := 1) (i := 2) (f := f__law_rows) (es := []) (env := [some (.dat X), some (.dat (.int k)), some (.own (src a1 b1)), some (.dat (.lst (R.map dRw))), x4, x5, x6, x7, x8, x9, x10, x11, x12, none]) rfl rfl rfl rfl evs0 rfl c2
  have K3 := own_call (G := g_law) (j := 3) (i := 2) (f := f__law_turned_row) (es := [.v 3]) (env := [some (.dat X), some (.dat (.int k)), some (.own (src a2 b2')), some (.dat (.lst (R.map dRw))), x4, x5, x6, x7, x8, x9, x10, x11, x12, none]) rfl rfl rfl rfl (evs1 (x_v rfl)) rfl c3
  have T3 : evS g_law (.asg (.name 4) (.call 2 [.v 2, .lst [.call 1 [.v 2], .call 3 [.v 2, .v 3]]])) [some (.dat X), some (.dat (.int k)), some (.own (src a1 b1)), some (.dat (.lst (R.map dRw))), x4, x5, x6, x7, x8, x9, x10, x11, x12, none] = .nx [some (.dat X), some (.dat (.int k)), some (.own (src a4 b4)), some (.dat (.lst (R.map dRw))), some (.dat (.lst (S.map dRw))), x5, x6, x7, x8, x9, x10, x11, x12, none] :=
    t_asg (own_call (G := g_law) (j := 2) (i := 2) (f := f__law_one) (es := [.lst [.call 1 [.v 2], .call 3 [.v 2, .v 3]]]) (env := [some (.dat X), some (.dat (.int k)), some (.own (src a1 b1)), some (.dat (.lst (R.map dRw))), x4, x5, x6, x7, x8, x9, x10, x11, x12, none]) rfl rfl rfl rfl (evs1 (x_lst (evs2 K2 K3) b2)) rfl c4) (bind_nm (x := x4) rfl h4)
  have T4 : evS g_law (.asg (.name 5) (.bin .add (.bin .add (.c (.int 5)) (.blt .max2 [.blt .int [.ix (.ix (.v 3) (.neg (.c (.int 1)))) (.c (.int 0))], .blt .int [.ix (.ix (.v 4) (.neg (.c (.int 1)))) (.c (.int 0))]])) (.c (.int 12)))) [some (.dat X), some (.dat (.int k)), some (.own (src a4 b4)), some (.dat (.lst (R.map dRw))), some (.dat (.lst (S.map dRw))), x5, x6, x7, x8, x9, x10, x11, x12, none] = .nx [some (.dat X), some (.dat (.int k)), some (.own (src a4 b4)), some (.dat (.lst (R.map dRw))), some (.dat (.lst (S.map dRw))), some (.dat (.int ((5 + max r.s q.s + 12 : Nat) : Int))), x6, x7, x8, x9, x10, x11, x12, none] :=
    t_asg (x_bin (x_bin x_c (x_blt2 (x_blt1 (x_ix (x_ix (x_v rfl) (x_neg x_c) ixr) x_c (row_s r)) (int_nat _)) (x_blt1 (x_ix (x_ix (x_v rfl) (x_neg x_c) ixq) x_c (row_s q)) (int_nat _)) (max_nat r.s q.s)) (show binD .add (.int 5) (.int ((max r.s q.s : Nat) : Int)) = some (.int ((5 + max r.s q.s : Nat) : Int)) from add_nat 5 (max r.s q.s))) x_c (show binD .add (.int ((5 + max r.s q.s : Nat) : Int)) (.int 12) = some (.int ((5 + max r.s q.s + 12 : Nat) : Int)) from add_nat (5 + max r.s q.s) 12)) (bind_nm (x := x5) rfl h5)
  have T5 : evS g_law (.asg (.tup [11, 12]) (.tup [.make 0 [.v 3], .make 0 [.v 4]])) [some (.dat X), some (.dat (.int k)), some (.own (src a4 b4)), some (.dat (.lst (R.map dRw))), some (.dat (.lst (S.map dRw))), some (.dat (.int ((5 + max r.s q.s + 12 : Nat) : Int))), x6, x7, x8, x9, x10, x11, x12, none] = .nx (envL X k (src a4 b4) R S (5 + max r.s q.s + 12) x6 x7 x8 x9 x10 none) := by
    refine t_asgt (d := .tup [dRi (toldM R), dRi (toldM S)]) (x_tup (evs2 (make_ok (m := k_Rising) rfl rfl (evs1 (x_v rfl)) kR) (make_ok (m := k_Rising) rfl rfl (evs1 (x_v rfl)) kS)) b2) ?_
    unfold bindT envL
    simp [freeB_eq, h11, h12]
  obtain ⟨y6, y7, y8, y9, y10, ⟨f6, f7, f8, f9, f10⟩, hb⟩ := b_turn X k (src a4 b4) ckR ckS lR lS sR sS hr hq x6 x7 x8 x9 x10 none h6 h7 h8 h9 h10 rfl
  exact ⟨_, _, _, _, y6, y7, y8, y9, y10, _, _, ⟨rfl, rfl, rfl, rfl, f6, f7, f8, f9, f10, rfl, rfl⟩, (ss_nx T1).trans ((ss_nx T2).trans ((ss_nx T3).trans ((ss_nx T4).trans ((ss_nx T5).trans hb))))⟩
theorem law_loop (ns : List Int) : ∀ (ks : List Nat) (x1 x2 x3 x4 x5 x6 x7 x8 x9 x10 x11 x12 : Option Cell), (∀ k, k ∈ ks → k < 100) → frC x1 = true → frC x2 = true → frC x3 = true → frC x4 = true → frC x5 = true → frC x6 = true → frC x7 = true → frC x8 = true → frC x9 = true → frC x10 = true → frC x11 = true → frC x12 = true →
    ∃ e, forL (.name 1) (fun e => evSs g_law bLawT e) (ks.map fun k : Nat => D.int (k : Int)) [some (.dat (.lst (ns.map .int))), x1, x2, x3, x4, x5, x6, x7, x8, x9, x10, x11, x12, none] = .nx e
  | [], x1, x2, x3, x4, x5, x6, x7, x8, x9, x10, x11, x12, _, _, _, _, _, _, _, _, _, _, _, _, _ => ⟨_, rfl⟩
  | k :: ks, x1, x2, x3, x4, x5, x6, x7, x8, x9, x10, x11, x12, h, h1, h2, h3, h4, h5, h6, h7, h8, h9, h10, h11, h12 => by
    obtain ⟨z2, z3, z4, z5, z6, z7, z8, z9, z10, z11, z12, ⟨g2, g3, g4, g5, g6, g7, g8, g9, g10, g11, g12⟩, ht⟩ := law_turn ns k (h k List.mem_cons_self) x2 x3 x4 x5 x6 x7 x8 x9 x10 x11 x12 h2 h3 h4 h5 h6 h7 h8 h9 h10 h11 h12
    obtain ⟨e, hf⟩ := law_loop ns ks (some (.dat (.int k))) z2 z3 z4 z5 z6 z7 z8 z9 z10 z11 z12 (fun j hj => h j (List.mem_cons_of_mem _ hj)) rfl g2 g3 g4 g5 g6 g7 g8 g9 g10 g11 g12
    refine ⟨e, ?_⟩
    rw [List.map_cons, forL, bind_nm (x := x1) rfl h1]
    dsimp only
    rw [show ([some (.dat (.lst (ns.map .int))), x1, x2, x3, x4, x5, x6, x7, x8, x9, x10, x11, x12, none] : Env).set 1 (some (.dat (.int (k : Int)))) = [some (.dat (.lst (ns.map .int))), some (.dat (.int (k : Int))), x2, x3, x4, x5, x6, x7, x8, x9, x10, x11, x12, none] from rfl, ht]
    exact hf
theorem math (ns : List Int) (hl : ns.length ≤ 63) : ∃ out, semB g_law 14 none b_law [.lst (ns.map .int)] = .ok (.bl true) out := by
  refine ⟨[], ?_⟩
  have q := s_rounds (ns.map .int)
  obtain ⟨m, hm⟩ : ∃ m, max 1 (min (ns.map D.int).length 3) = m := ⟨_, rfl⟩
  have hm4 : m ≤ 3 := by omega
  rw [hm] at q
  have io : iotaD 0 m = (List.range' 0 m).map fun k : Nat => D.int (k : Int) := iota_map' 0 m
  obtain ⟨e, hf⟩ := law_loop ns (List.range' 0 m) none none none none none none none none none none none none (fun k hk => by have := List.mem_range'_1.mp hk; omega) rfl rfl rfl rfl rfl rfl rfl rfl rfl rfl rfl rfl
  rw [← io] at hf
  have e0 : b_law = [.for_ (.name 1) (.seq (.call 0 [.v 0])) bLawT, .ret (.c (.bl true))] := rfl
  have E : evi g_law (.seq (.call 0 [.v 0])) [some (.dat (.lst (ns.map .int))), none, none, none, none, none, none, none, none, none, none, none, none, none] = .ok (iotaD 0 m) [some (.dat (.lst (ns.map .int))), none, none, none, none, none, none, none, none, none, none, none, none, none] := by
    rw [evi, take_okD (call_ok cl_law_0 (evs1 (x_v rfl)) q)]
    rfl
  have st : startE none 14 [D.lst (ns.map .int)] = [some (.dat (.lst (ns.map .int))), none, none, none, none, none, none, none, none, none, none, none, none, none] := rfl
  refine sem_rt (e := e) ?_
  rw [e0, st]
  exact (ss_nx (t_for E hf)).trans (ss_rt (t_ret x_c))
end Mp
set_option maxHeartbeats 4000000
namespace Mp
open PySem L2 PyProof.Rows
theorem tabS_empty {H : Hp} {P : Addr} {q : Str} (h : H P = some (.tbl #[])) : LamX.TabS H P q := ⟨#[], h, trivial, fun pos cv hc => by cases hc⟩
theorem tabIn_of {K : PySem.W.Frag} {x : Str} {f c P : Addr} {oc xo : Value} {od xd : Option Addr} {fd : FuncData} {sl xs : Array (Option Value)} {vs : Array Value} (ha : PySem.W.nsIn K mainGlobals x = some (some (.ref f))) (hl : K.lookup f = some ⟨oc, od, .func fd, sl⟩) (hc : fd.code = .ref c) (hx : K.lookup c = some ⟨xo, xd, .fields vs, xs⟩) (hp : (vs[11]? : Option Value) = some (.ref P)) : PySem.W.tabIn K x = some (c, P) := by
  unfold PySem.W.tabIn
  rw [ha]
  dsimp only
  rw [hl]
  dsimp only
  rw [hc]
  dsimp only
  rw [hx]
  dsimp only
  rw [hp]
theorem FnOk.imp [GdW] {P : Program} {w : World} {K : PySem.W.Frag} {mg : Str → Option Value} {base : Heap} {CX : CXT} {k : Nat} {f : Addr} {fd : FuncData} {ps : List Str} {sp sp2 : Sp} (F : FnOk P w K mg base CX k f fd ps sp) (h : ∀ vs H Q E, sp2 vs H Q E → sp vs H Q E) : FnOk P w K mg base CX k f fd ps sp2 := ⟨fun vs H Q E z => F.len vs H Q E (h _ _ _ _ z), fun A out s H args us vs Q E hr e0 b r z => F.go A out s H args us vs Q E hr e0 b r (h _ _ _ _ z)⟩
theorem fun_toD {K : PySem.W.Frag} {x qual : Str} {st : Stmt} {f : Addr} {fd : FuncData} (F : Fun K x qual st f fd) : FunD K x qual (defArgs st) (defBody st) (defScope st) [] [] f fd := by
  obtain ⟨⟨oc, od, kV, doc, pm, an, cdv, ct, osl, h1, h2, h3⟩, kp⟩ := F
  exact ⟨⟨oc, od, .none, kV, doc, pm, an, cdv, ct, osl, h1, h2, h3, .inl ⟨rfl, rfl⟩, .inl rfl⟩, kp⟩
theorem exm_cc {K : PySem.W.Frag} {S S' : Addr} {r : Bool} (h1 : PySem.W.subIn K (.ref S') (.type "BaseException") = some true) (h2 : PySem.W.isClsIn K S' = true) (h3 : PySem.W.typeIn K (.ref S') = some (.type "type")) (h4 : PySem.W.subIn K (.ref S) (.ref S') = some r) : PySem.W.exmOne K (.ref S) (.ref S') = some r := by
  have e1 : (PySem.W.subIn K (.ref S') (.type "BaseException") == some true) = true := by rw [h1] <;> rfl
  have e2 : ((PySem.W.clsIn K S').isSome && PySem.W.typeIn K (.ref S') == some (.type "type")) = true := by
    have h2' : (PySem.W.clsIn K S').isSome = true := h2
    rw [h2', h3] <;> rfl
  show (if (PySem.W.subIn K (.ref S') (.type "BaseException") == some true) = true then (if ((PySem.W.clsIn K S').isSome && PySem.W.typeIn K (.ref S') == some (.type "type")) = true then PySem.W.subIn K (.ref S) (.ref S') else none) else none) = some r
  rw [if_pos e1, if_pos e2]
  exact h4
theorem all_mk {l : PySem.W.OpenLaw} {w : World} {K : PySem.W.Frag} {h : Heap} {mg : Str → Option Value} {fa C_Rising C_BadPart I_BadPart N_BadPart C_DayError C_BadNumber I_BadNumber N_BadNumber C_BadIndex I_BadIndex N_BadIndex f0 f1 f2 f3 f4 f5 f6 f7 f8 f9 f10 f11 f12 f13 f14 f15 f16 f17 f18 f19 f20 f21 f22 f23 f24 f25 f26 f27 f28 f29 f30 f31 f32 f33 f34 f35 f36 f37 f38 f39 f40 cc40 P40 f41 cc41 P41 fH0 : Addr} (X : K.In h) (G : h.Ns mainGlobals mg) (hfa : mg "law" = some (.ref fa))
    {nm_BadPart q_BadPart : Str} {bs_BadPart sub_BadPart : List Value} {sn_BadPart : List Str} {ab_BadPart : Bool} {col_BadPart : Option Bool} {dd_BadPart : Option Addr} {m0_BadPart m1_BadPart m2_BadPart m3_BadPart m5_BadPart : Option Value}
    {od_BadPart an_BadPart : Option Addr} {sl_BadPart : Array (Option Value)} {oc_BadPart dc_BadPart pm_BadPart cd_BadPart ct_BadPart : Value}
    {nm_BadNumber q_BadNumber : Str} {bs_BadNumber sub_BadNumber : List Value} {sn_BadNumber : List Str} {ab_BadNumber : Bool} {col_BadNumber : Option Bool} {dd_BadNumber : Option Addr} {m0_BadNumber m1_BadNumber m2_BadNumber m3_BadNumber m5_BadNumber : Option Value}
    {od_BadNumber an_BadNumber : Option Addr} {sl_BadNumber : Array (Option Value)} {oc_BadNumber dc_BadNumber pm_BadNumber cd_BadNumber ct_BadNumber : Value}
    {nm_BadIndex q_BadIndex : Str} {bs_BadIndex sub_BadIndex : List Value} {sn_BadIndex : List Str} {ab_BadIndex : Bool} {col_BadIndex : Option Bool} {dd_BadIndex : Option Addr} {m0_BadIndex m1_BadIndex m2_BadIndex m3_BadIndex m5_BadIndex : Option Value}
    {od_BadIndex an_BadIndex : Option Addr} {sl_BadIndex : Array (Option Value)} {oc_BadIndex dc_BadIndex pm_BadIndex cd_BadIndex ct_BadIndex : Value}
    {od0 an0 od1 an1 od2 an2 od3 an3 od4 an4 od5 an5 od6 an6 od7 an7 od8 an8 od9 an9 od10 an10 od11 an11 od12 an12 od13 an13 od14 an14 od15 an15 od16 an16 od17 an17 od18 an18 od19 an19 od20 an20 od21 an21 od22 an22 od23 an23 od24 an24 od25 an25 od26 an26 od27 an27 od28 an28 od29 an29 od30 an30 od31 an31 od32 an32 od33 an33 od34 an34 od35 an35 od36 an36 od37 an37 od38 an38 od39 an39 od40 an40 od41 an41 odH0 anH0 : Option Addr} {sl0 sl1 sl2 sl3 sl4 sl5 sl6 sl7 sl8 sl9 sl10 sl11 sl12 sl13 sl14 sl15 sl16 sl17 sl18 sl19 sl20 sl21 sl22 sl23 sl24 sl25 sl26 sl27 sl28 sl29 sl30 sl31 sl32 sl33 sl34 sl35 sl36 sl37 sl38 sl39 sl40 sl41 slH0 : Array (Option Value)} {oc0 kV0 dc0 pm0 cd0 ct0 oc1 kV1 dc1 pm1 cd1 ct1 oc2 kV2 dc2 pm2 cd2 ct2 oc3 kV3 dc3 pm3 cd3 ct3 oc4 kV4 dc4 pm4 cd4 ct4 oc5 kV5 dc5 pm5 cd5 ct5 oc6 kV6 dc6 pm6 cd6 ct6 oc7 kV7 dc7 pm7 cd7 ct7 oc8 kV8 dc8 pm8 cd8 ct8 oc9 kV9 dc9 pm9 cd9 ct9 oc10 kV10 dc10 pm10 cd10 ct10 oc11 kV11 dc11 pm11 cd11 ct11 oc12 kV12 dc12 pm12 cd12 ct12 oc13 kV13 dc13 pm13 cd13 ct13 oc14 kV14 dc14 pm14 cd14 ct14 oc15 kV15 dc15 pm15 cd15 ct15 oc16 kV16 dc16 pm16 cd16 ct16 oc17 kV17 dc17 pm17 cd17 ct17 oc18 kV18 dc18 pm18 cd18 ct18 oc19 kV19 dc19 pm19 cd19 ct19 oc20 kV20 dc20 pm20 cd20 ct20 oc21 kV21 dc21 pm21 cd21 ct21 oc22 kV22 dc22 pm22 cd22 ct22 oc23 kV23 dc23 pm23 cd23 ct23 oc24 kV24 dc24 pm24 cd24 ct24 oc25 kV25 dc25 pm25 cd25 ct25 oc26 kV26 dc26 pm26 cd26 ct26 oc27 kV27 dc27 pm27 cd27 ct27 oc28 kV28 dc28 pm28 cd28 ct28 oc29 kV29 dc29 pm29 cd29 ct29 oc30 kV30 dc30 pm30 cd30 ct30 oc31 kV31 dc31 pm31 cd31 ct31 oc32 kV32 dc32 pm32 cd32 ct32 oc33 kV33 dc33 pm33 cd33 ct33 oc34 kV34 dc34 pm34 cd34 ct34 oc35 kV35 dc35 pm35 cd35 ct35 oc36 kV36 dc36 pm36 cd36 ct36 oc37 kV37 dc37 pm37 cd37 ct37 oc38 kV38 dc38 pm38 cd38 ct38 oc39 kV39 dc39 pm39 cd39 ct39 oc40 kV40 dc40 pm40  ct40 oc41 kV41 dc41 pm41  ct41 ocH0 kVH0 dcH0 pmH0 cdH0 ctH0 : Value}
    {xo40 : Value} {xd40 : Option Addr} {xv40 : Array Value} {xs40 : Array (Option Value)}
    {xo41 : Value} {xd41 : Option Addr} {xv41 : Array Value} {xs41 : Array (Option Value)}
    (th40 : PySem.W.CodeHd h cc40 P40 ∧ h.get? P40 = some tab0)
    (th41 : PySem.W.CodeHd h cc41 P41 ∧ h.get? P41 = some tab0)
    (aC_Rising : PySem.W.nsIn K mainGlobals "Rising" = some (some (.ref C_Rising)))
    (pgC_Rising : PySem.W.plainGet K C_Rising Str.empty = true)
    (hdC_Rising : PySem.W.hasDictIn K C_Rising = true)
    (poC_Rising : PySem.W.plainOver K C_Rising = true)
    (saC_Rising : PySem.W.findIn K (.ref C_Rising) "__setattr__" = some (some (.builtin "object.__setattr__")))
    (mkC_Rising : PySem.W.makesIn K C_Rising = true)
    (kcC_Rising : PySem.W.keepIn K (.ref C_Rising) = true)
    (haC_Rising : PySem.W.findIn K (.ref C_Rising) "__class__" = some (some (.builtin "object.__class__")))
    (hmC_Rising : PySem.W.mroIn K C_Rising (.type "object") = some true)
    (nrowsC_Rising : PySem.W.findIn K (.ref C_Rising) "rows" = some none)
    (oc_hn : PySem.W.specialIn K (.builtin "object.__class__") "__get__" = some (some (.builtin "getset_descriptor.__get__")))
    (oc_ht : PySem.W.takesIn K (.builtin "object.__class__") = some true)
    (aC_BadPart : PySem.W.nsIn K mainGlobals "BadPart" = some (some (.ref C_BadPart)))
    (xC_BadPart : K.lookup C_BadPart = some (excClassObj nm_BadPart q_BadPart C_BadPart N_BadPart bs_BadPart [.ref C_DayError, .type "ValueError", .type "Exception", .type "BaseException", .type "object"] true sn_BadPart sub_BadPart ab_BadPart col_BadPart dd_BadPart m0_BadPart m1_BadPart m2_BadPart m3_BadPart m5_BadPart "ValueError.__new__"))
    (saC_BadPart : PySem.W.findIn K (.ref C_BadPart) "__setattr__" = some (some (.builtin "object.__setattr__")))
    (gaC_BadPart : PySem.W.findIn K (.ref C_BadPart) "__getattribute__" = some (some (.builtin "BaseException.__getattribute__")))
    (ggC_BadPart : PySem.W.findIn K (.ref C_BadPart) "__getattr__" = some none)
    (nbC_BadPart : PySem.W.findIn K (.ref C_BadPart) "part" = some none)
    (iC_BadPart : PySem.W.findIn K (.ref C_BadPart) "__init__" = some (some (.ref I_BadPart)))
    (tiC_BadPart : PySem.W.typeIn K (.ref I_BadPart) = some (.type "function"))
    (lC_BadPart : K.lookup I_BadPart = some ⟨oc_BadPart, od_BadPart, .func (PySem.W.fnOf "__init__" "BadPart.__init__" (PySem.ErrBadPart.iA ⟨9, 17, 9, 21⟩ ⟨9, 23, 9, 27⟩) (PySem.ErrBadPart.iB ⟨10, 8, 10, 12⟩ ⟨10, 8, 10, 17⟩ ⟨10, 20, 10, 24⟩ ⟨10, 8, 10, 24⟩) PySem.ErrBadPart.iS .none .none dc_BadPart pm_BadPart an_BadPart cd_BadPart ct_BadPart), sl_BadPart⟩)
    (cC_BadPart : PySem.W.codeIn K cd_BadPart "BadPart.__init__" = true)
    (kC_BadPart : PySem.W.keepIn K (.ref C_BadPart) = true)
    (eC_BadPart : PySem.W.subIn K (.ref C_BadPart) (.type "BaseException") = some true)
    (tyC_BadPart : PySem.W.typeIn K (.ref C_BadPart) = some (.type "type"))
    (hdC_BadPart : PySem.W.hasDictIn K C_BadPart = true)
    (icC_BadPart : PySem.W.isClsIn K C_BadPart = true)
    (aC_BadNumber : PySem.W.nsIn K mainGlobals "BadNumber" = some (some (.ref C_BadNumber)))
    (xC_BadNumber : K.lookup C_BadNumber = some (excClassObj nm_BadNumber q_BadNumber C_BadNumber N_BadNumber bs_BadNumber [.ref C_DayError, .type "ValueError", .type "Exception", .type "BaseException", .type "object"] true sn_BadNumber sub_BadNumber ab_BadNumber col_BadNumber dd_BadNumber m0_BadNumber m1_BadNumber m2_BadNumber m3_BadNumber m5_BadNumber "ValueError.__new__"))
    (saC_BadNumber : PySem.W.findIn K (.ref C_BadNumber) "__setattr__" = some (some (.builtin "object.__setattr__")))
    (gaC_BadNumber : PySem.W.findIn K (.ref C_BadNumber) "__getattribute__" = some (some (.builtin "BaseException.__getattribute__")))
    (ggC_BadNumber : PySem.W.findIn K (.ref C_BadNumber) "__getattr__" = some none)
    (nbC_BadNumber : PySem.W.findIn K (.ref C_BadNumber) "number" = some none)
    (iC_BadNumber : PySem.W.findIn K (.ref C_BadNumber) "__init__" = some (some (.ref I_BadNumber)))
    (tiC_BadNumber : PySem.W.typeIn K (.ref I_BadNumber) = some (.type "function"))
    (lC_BadNumber : K.lookup I_BadNumber = some ⟨oc_BadNumber, od_BadNumber, .func (PySem.W.fnOf "__init__" "BadNumber.__init__" (PySem.ErrBadNumber.iA ⟨13, 17, 13, 21⟩ ⟨13, 23, 13, 29⟩) (PySem.ErrBadNumber.iB ⟨14, 8, 14, 12⟩ ⟨14, 8, 14, 19⟩ ⟨14, 22, 14, 28⟩ ⟨14, 8, 14, 28⟩) PySem.ErrBadNumber.iS .none .none dc_BadNumber pm_BadNumber an_BadNumber cd_BadNumber ct_BadNumber), sl_BadNumber⟩)
    (cC_BadNumber : PySem.W.codeIn K cd_BadNumber "BadNumber.__init__" = true)
    (kC_BadNumber : PySem.W.keepIn K (.ref C_BadNumber) = true)
    (eC_BadNumber : PySem.W.subIn K (.ref C_BadNumber) (.type "BaseException") = some true)
    (tyC_BadNumber : PySem.W.typeIn K (.ref C_BadNumber) = some (.type "type"))
    (hdC_BadNumber : PySem.W.hasDictIn K C_BadNumber = true)
    (icC_BadNumber : PySem.W.isClsIn K C_BadNumber = true)
    (aC_BadIndex : PySem.W.nsIn K mainGlobals "BadIndex" = some (some (.ref C_BadIndex)))
    (xC_BadIndex : K.lookup C_BadIndex = some (excClassObj nm_BadIndex q_BadIndex C_BadIndex N_BadIndex bs_BadIndex [.ref C_DayError, .type "ValueError", .type "Exception", .type "BaseException", .type "object"] true sn_BadIndex sub_BadIndex ab_BadIndex col_BadIndex dd_BadIndex m0_BadIndex m1_BadIndex m2_BadIndex m3_BadIndex m5_BadIndex "ValueError.__new__"))
    (saC_BadIndex : PySem.W.findIn K (.ref C_BadIndex) "__setattr__" = some (some (.builtin "object.__setattr__")))
    (gaC_BadIndex : PySem.W.findIn K (.ref C_BadIndex) "__getattribute__" = some (some (.builtin "BaseException.__getattribute__")))
    (ggC_BadIndex : PySem.W.findIn K (.ref C_BadIndex) "__getattr__" = some none)
    (nbC_BadIndex : PySem.W.findIn K (.ref C_BadIndex) "index" = some none)
    (iC_BadIndex : PySem.W.findIn K (.ref C_BadIndex) "__init__" = some (some (.ref I_BadIndex)))
    (tiC_BadIndex : PySem.W.typeIn K (.ref I_BadIndex) = some (.type "function"))
    (lC_BadIndex : K.lookup I_BadIndex = some ⟨oc_BadIndex, od_BadIndex, .func (PySem.W.fnOf "__init__" "BadIndex.__init__" (PySem.ErrBadIndex.iA ⟨17, 17, 17, 21⟩ ⟨17, 23, 17, 28⟩) (PySem.ErrBadIndex.iB ⟨18, 8, 18, 12⟩ ⟨18, 8, 18, 18⟩ ⟨18, 21, 18, 26⟩ ⟨18, 8, 18, 26⟩) PySem.ErrBadIndex.iS .none .none dc_BadIndex pm_BadIndex an_BadIndex cd_BadIndex ct_BadIndex), sl_BadIndex⟩)
    (cC_BadIndex : PySem.W.codeIn K cd_BadIndex "BadIndex.__init__" = true)
    (kC_BadIndex : PySem.W.keepIn K (.ref C_BadIndex) = true)
    (eC_BadIndex : PySem.W.subIn K (.ref C_BadIndex) (.type "BaseException") = some true)
    (tyC_BadIndex : PySem.W.typeIn K (.ref C_BadIndex) = some (.type "type"))
    (hdC_BadIndex : PySem.W.hasDictIn K C_BadIndex = true)
    (icC_BadIndex : PySem.W.isClsIn K C_BadIndex = true)
    (su_BadPart_BadPart : PySem.W.subIn K (.ref C_BadPart) (.ref C_BadPart) = some true)
    (su_BadPart_BadIndex : PySem.W.subIn K (.ref C_BadPart) (.ref C_BadIndex) = some false)
    (su_BadPart_BadNumber : PySem.W.subIn K (.ref C_BadPart) (.ref C_BadNumber) = some false)
    (su_BadIndex_BadPart : PySem.W.subIn K (.ref C_BadIndex) (.ref C_BadPart) = some false)
    (su_BadIndex_BadIndex : PySem.W.subIn K (.ref C_BadIndex) (.ref C_BadIndex) = some true)
    (su_BadIndex_BadNumber : PySem.W.subIn K (.ref C_BadIndex) (.ref C_BadNumber) = some false)
    (su_BadNumber_BadPart : PySem.W.subIn K (.ref C_BadNumber) (.ref C_BadPart) = some false)
    (su_BadNumber_BadIndex : PySem.W.subIn K (.ref C_BadNumber) (.ref C_BadIndex) = some false)
    (su_BadNumber_BadNumber : PySem.W.subIn K (.ref C_BadNumber) (.ref C_BadNumber) = some true)
    (nfn_Rising : PySem.W.subIn K (.type "NoneType") (.ref C_Rising) = some false)
    (nfb_Rising : PySem.W.subIn K (.type "bool") (.ref C_Rising) = some false)
    (nfi_Rising : PySem.W.subIn K (.type "int") (.ref C_Rising) = some false)
    (nfs_Rising : PySem.W.subIn K (.type "str") (.ref C_Rising) = some false)
    (nfl_Rising : PySem.W.subIn K (.type "list") (.ref C_Rising) = some false)
    (nft_Rising : PySem.W.subIn K (.type "tuple") (.ref C_Rising) = some false)
    (nfd_Rising : PySem.W.subIn K (.type "dict") (.ref C_Rising) = some false)
    (nfe_Rising : PySem.W.findIn K (.ref C_Rising) "__ne__" = some (some (.builtin "object.__ne__")))
    (Z_isinstance : PySem.W.nsIn K mainGlobals "isinstance" = some none)
    (Z_int : PySem.W.nsIn K mainGlobals "int" = some none)
    (Z_bool : PySem.W.nsIn K mainGlobals "bool" = some none)
    (Z_list : PySem.W.nsIn K mainGlobals "list" = some none)
    (Z_tuple : PySem.W.nsIn K mainGlobals "tuple" = some none)
    (Z_len : PySem.W.nsIn K mainGlobals "len" = some none)
    (Z_enumerate : PySem.W.nsIn K mainGlobals "enumerate" = some none)
    (Z_range : PySem.W.nsIn K mainGlobals "range" = some none)
    (Z_min : PySem.W.nsIn K mainGlobals "min" = some none)
    (Z_sorted : PySem.W.nsIn K mainGlobals "sorted" = some none)
    (Z_set : PySem.W.nsIn K mainGlobals "set" = some none)
    (Z_all : PySem.W.nsIn K mainGlobals "all" = some none)
    (Z_max : PySem.W.nsIn K mainGlobals "max" = some none)
    (Z_repr : PySem.W.nsIn K mainGlobals "repr" = some none)
    (S_int_Rising : PySem.W.subIn K (.ref C_Rising) (.type "int") = some false)
    (S_bool_Rising : PySem.W.subIn K (.ref C_Rising) (.type "bool") = some false)
    (S_list_Rising : PySem.W.subIn K (.ref C_Rising) (.type "list") = some false)
    (S_tuple_Rising : PySem.W.subIn K (.ref C_Rising) (.type "tuple") = some false)
    (iC_Rising : PySem.W.isClsIn K C_Rising = true)
    (tC_Rising : PySem.W.typeIn K (.ref C_Rising) = some (.type "type"))
    (a0 : PySem.W.nsIn K mainGlobals "is_whole" = some (some (.ref f0)))
    (l0 : K.lookup f0 = some ⟨oc0, od0, .func (PySem.W.fnOf "is_whole" "is_whole" (defArgs (top 7)) (defBody (top 7)) (defScope (top 7)) .none kV0 dc0 pm0 an0 cd0 ct0), sl0⟩)
    (c0 : PySem.W.codeIn K cd0 "is_whole" = true)
    (k0 : PySem.W.keepIn K (.ref f0) = true)
    (a1 : PySem.W.nsIn K mainGlobals "is_count" = some (some (.ref f1)))
    (l1 : K.lookup f1 = some ⟨oc1, od1, .func (PySem.W.fnOf "is_count" "is_count" (defArgs (top 8)) (defBody (top 8)) (defScope (top 8)) .none kV1 dc1 pm1 an1 cd1 ct1), sl1⟩)
    (c1 : PySem.W.codeIn K cd1 "is_count" = true)
    (k1 : PySem.W.keepIn K (.ref f1) = true)
    (a2 : PySem.W.nsIn K mainGlobals "is_count_or_never" = some (some (.ref f2)))
    (l2 : K.lookup f2 = some ⟨oc2, od2, .func (PySem.W.fnOf "is_count_or_never" "is_count_or_never" (defArgs (top 9)) (defBody (top 9)) (defScope (top 9)) .none kV2 dc2 pm2 an2 cd2 ct2), sl2⟩)
    (c2 : PySem.W.codeIn K cd2 "is_count_or_never" = true)
    (k2 : PySem.W.keepIn K (.ref f2) = true)
    (a3 : PySem.W.nsIn K mainGlobals "is_listed" = some (some (.ref f3)))
    (l3 : K.lookup f3 = some ⟨oc3, od3, .func (PySem.W.fnOf "is_listed" "is_listed" (defArgs (top 10)) (defBody (top 10)) (defScope (top 10)) .none kV3 dc3 pm3 an3 cd3 ct3), sl3⟩)
    (c3 : PySem.W.codeIn K cd3 "is_listed" = true)
    (k3 : PySem.W.keepIn K (.ref f3) = true)
    (a4 : PySem.W.nsIn K mainGlobals "need_minute" = some (some (.ref f4)))
    (l4 : K.lookup f4 = some ⟨oc4, od4, .func (PySem.W.fnOf "need_minute" "need_minute" (defArgs (top 12)) (defBody (top 12)) (defScope (top 12)) .none kV4 dc4 pm4 an4 cd4 ct4), sl4⟩)
    (c4 : PySem.W.codeIn K cd4 "need_minute" = true)
    (k4 : PySem.W.keepIn K (.ref f4) = true)
    (a5 : PySem.W.nsIn K mainGlobals "is_less" = some (some (.ref f5)))
    (l5 : K.lookup f5 = some ⟨oc5, od5, .func (PySem.W.fnOf "is_less" "is_less" (defArgs (top 14)) (defBody (top 14)) (defScope (top 14)) .none kV5 dc5 pm5 an5 cd5 ct5), sl5⟩)
    (c5 : PySem.W.codeIn K cd5 "is_less" = true)
    (k5 : PySem.W.keepIn K (.ref f5) = true)
    (a6 : PySem.W.nsIn K mainGlobals "lesser" = some (some (.ref f6)))
    (l6 : K.lookup f6 = some ⟨oc6, od6, .func (PySem.W.fnOf "lesser" "lesser" (defArgs (top 15)) (defBody (top 15)) (defScope (top 15)) .none kV6 dc6 pm6 an6 cd6 ct6), sl6⟩)
    (c6 : PySem.W.codeIn K cd6 "lesser" = true)
    (k6 : PySem.W.keepIn K (.ref f6) = true)
    (a7 : PySem.W.nsIn K mainGlobals "row_gives" = some (some (.ref f7)))
    (l7 : K.lookup f7 = some ⟨oc7, od7, .func (PySem.W.fnOf "row_gives" "row_gives" (defArgs (top 18)) (defBody (top 18)) (defScope (top 18)) .none kV7 dc7 pm7 an7 cd7 ct7), sl7⟩)
    (c7 : PySem.W.codeIn K cd7 "row_gives" = true)
    (k7 : PySem.W.keepIn K (.ref f7) = true)
    (a8 : PySem.W.nsIn K mainGlobals "place_at" = some (some (.ref f8)))
    (l8 : K.lookup f8 = some ⟨oc8, od8, .func (PySem.W.fnOf "place_at" "place_at" (defArgs (top 19)) (defBody (top 19)) (defScope (top 19)) .none kV8 dc8 pm8 an8 cd8 ct8), sl8⟩)
    (c8 : PySem.W.codeIn K cd8 "place_at" = true)
    (k8 : PySem.W.keepIn K (.ref f8) = true)
    (a9 : PySem.W.nsIn K mainGlobals "value_at" = some (some (.ref f9)))
    (l9 : K.lookup f9 = some ⟨oc9, od9, .func (PySem.W.fnOf "value_at" "value_at" (defArgs (top 20)) (defBody (top 20)) (defScope (top 20)) .none kV9 dc9 pm9 an9 cd9 ct9), sl9⟩)
    (c9 : PySem.W.codeIn K cd9 "value_at" = true)
    (k9 : PySem.W.keepIn K (.ref f9) = true)
    (a10 : PySem.W.nsIn K mainGlobals "end_of" = some (some (.ref f10)))
    (l10 : K.lookup f10 = some ⟨oc10, od10, .func (PySem.W.fnOf "end_of" "end_of" (defArgs (top 21)) (defBody (top 21)) (defScope (top 21)) .none kV10 dc10 pm10 an10 cd10 ct10), sl10⟩)
    (c10 : PySem.W.codeIn K cd10 "end_of" = true)
    (k10 : PySem.W.keepIn K (.ref f10) = true)
    (a11 : PySem.W.nsIn K mainGlobals "is_row" = some (some (.ref f11)))
    (l11 : K.lookup f11 = some ⟨oc11, od11, .func (PySem.W.fnOf "is_row" "is_row" (defArgs (top 22)) (defBody (top 22)) (defScope (top 22)) .none kV11 dc11 pm11 an11 cd11 ct11), sl11⟩)
    (c11 : PySem.W.codeIn K cd11 "is_row" = true)
    (k11 : PySem.W.keepIn K (.ref f11) = true)
    (a12 : PySem.W.nsIn K mainGlobals "is_right_alone" = some (some (.ref f12)))
    (l12 : K.lookup f12 = some ⟨oc12, od12, .func (PySem.W.fnOf "is_right_alone" "is_right_alone" (defArgs (top 23)) (defBody (top 23)) (defScope (top 23)) .none kV12 dc12 pm12 an12 cd12 ct12), sl12⟩)
    (c12 : PySem.W.codeIn K cd12 "is_right_alone" = true)
    (k12 : PySem.W.keepIn K (.ref f12) = true)
    (a13 : PySem.W.nsIn K mainGlobals "is_right_behind" = some (some (.ref f13)))
    (l13 : K.lookup f13 = some ⟨oc13, od13, .func (PySem.W.fnOf "is_right_behind" "is_right_behind" (defArgs (top 24)) (defBody (top 24)) (defScope (top 24)) .none kV13 dc13 pm13 an13 cd13 ct13), sl13⟩)
    (c13 : PySem.W.codeIn K cd13 "is_right_behind" = true)
    (k13 : PySem.W.keepIn K (.ref f13) = true)
    (a14 : PySem.W.nsIn K mainGlobals "first_wrong" = some (some (.ref f14)))
    (l14 : K.lookup f14 = some ⟨oc14, od14, .func (PySem.W.fnOf "first_wrong" "first_wrong" (defArgs (top 25)) (defBody (top 25)) (defScope (top 25)) .none kV14 dc14 pm14 an14 cd14 ct14), sl14⟩)
    (c14 : PySem.W.codeIn K cd14 "first_wrong" = true)
    (k14 : PySem.W.keepIn K (.ref f14) = true)
    (a15 : PySem.W.nsIn K mainGlobals "first_minutes" = some (some (.ref f15)))
    (l15 : K.lookup f15 = some ⟨oc15, od15, .func (PySem.W.fnOf "first_minutes" "first_minutes" (defArgs (top 26)) (defBody (top 26)) (defScope (top 26)) .none kV15 dc15 pm15 an15 cd15 ct15), sl15⟩)
    (c15 : PySem.W.codeIn K cd15 "first_minutes" = true)
    (k15 : PySem.W.keepIn K (.ref f15) = true)
    (a16 : PySem.W.nsIn K mainGlobals "widened" = some (some (.ref f16)))
    (l16 : K.lookup f16 = some ⟨oc16, od16, .func (PySem.W.fnOf "widened" "widened" (defArgs (top 27)) (defBody (top 27)) (defScope (top 27)) .none kV16 dc16 pm16 an16 cd16 ct16), sl16⟩)
    (c16 : PySem.W.codeIn K cd16 "widened" = true)
    (k16 : PySem.W.keepIn K (.ref f16) = true)
    (a17 : PySem.W.nsIn K mainGlobals "told_rows" = some (some (.ref f17)))
    (l17 : K.lookup f17 = some ⟨oc17, od17, .func (PySem.W.fnOf "told_rows" "told_rows" (defArgs (top 28)) (defBody (top 28)) (defScope (top 28)) .none kV17 dc17 pm17 an17 cd17 ct17), sl17⟩)
    (c17 : PySem.W.codeIn K cd17 "told_rows" = true)
    (k17 : PySem.W.keepIn K (.ref f17) = true)
    (a18 : PySem.W.nsIn K mainGlobals "all_starts" = some (some (.ref f18)))
    (l18 : K.lookup f18 = some ⟨oc18, od18, .func (PySem.W.fnOf "all_starts" "all_starts" (defArgs (top 31)) (defBody (top 31)) (defScope (top 31)) .none kV18 dc18 pm18 an18 cd18 ct18), sl18⟩)
    (c18 : PySem.W.codeIn K cd18 "all_starts" = true)
    (k18 : PySem.W.keepIn K (.ref f18) = true)
    (a19 : PySem.W.nsIn K mainGlobals "parts_at" = some (some (.ref f19)))
    (l19 : K.lookup f19 = some ⟨oc19, od19, .func (PySem.W.fnOf "parts_at" "parts_at" (defArgs (top 32)) (defBody (top 32)) (defScope (top 32)) .none kV19 dc19 pm19 an19 cd19 ct19), sl19⟩)
    (c19 : PySem.W.codeIn K cd19 "parts_at" = true)
    (k19 : PySem.W.keepIn K (.ref f19) = true)
    (a20 : PySem.W.nsIn K mainGlobals "part_over" = some (some (.ref f20)))
    (l20 : K.lookup f20 = some ⟨oc20, od20, .func (PySem.W.fnOf "part_over" "part_over" (defArgs (top 37)) (defBody (top 37)) (defScope (top 37)) .none kV20 dc20 pm20 an20 cd20 ct20), sl20⟩)
    (c20 : PySem.W.codeIn K cd20 "part_over" = true)
    (k20 : PySem.W.keepIn K (.ref f20) = true)
    (a21 : PySem.W.nsIn K mainGlobals "first_over" = some (some (.ref f21)))
    (l21 : K.lookup f21 = some ⟨oc21, od21, .func (PySem.W.fnOf "first_over" "first_over" (defArgs (top 38)) (defBody (top 38)) (defScope (top 38)) .none kV21 dc21 pm21 an21 cd21 ct21), sl21⟩)
    (c21 : PySem.W.codeIn K cd21 "first_over" = true)
    (k21 : PySem.W.keepIn K (.ref f21) = true)
    (a22 : PySem.W.findIn K (.ref C_Rising) "__init__" = some (some (.ref f22)))
    (i22 : PySem.W.isFn K (.ref f22) = true)
    (l22 : K.lookup f22 = some ⟨oc22, od22, .func (PySem.W.fnOf "__init__" "Rising.__init__" (defArgs (inTop 40 0)) (defBody (inTop 40 0)) (defScope (inTop 40 0)) .none kV22 dc22 pm22 an22 cd22 ct22), sl22⟩)
    (c22 : PySem.W.codeIn K cd22 "Rising.__init__" = true)
    (k22 : PySem.W.keepIn K (.ref f22) = true)
    (a23 : PySem.W.findIn K (.ref C_Rising) "__call__" = some (some (.ref f23)))
    (i23 : PySem.W.isFn K (.ref f23) = true)
    (l23 : K.lookup f23 = some ⟨oc23, od23, .func (PySem.W.fnOf "__call__" "Rising.__call__" (defArgs (inTop 40 1)) (defBody (inTop 40 1)) (defScope (inTop 40 1)) .none kV23 dc23 pm23 an23 cd23 ct23), sl23⟩)
    (c23 : PySem.W.codeIn K cd23 "Rising.__call__" = true)
    (k23 : PySem.W.keepIn K (.ref f23) = true)
    (a24 : PySem.W.findIn K (.ref C_Rising) "__eq__" = some (some (.ref f24)))
    (i24 : PySem.W.isFn K (.ref f24) = true)
    (l24 : K.lookup f24 = some ⟨oc24, od24, .func (PySem.W.fnOf "__eq__" "Rising.__eq__" (defArgs (inTop 40 3)) (defBody (inTop 40 3)) (defScope (inTop 40 3)) .none kV24 dc24 pm24 an24 cd24 ct24), sl24⟩)
    (c24 : PySem.W.codeIn K cd24 "Rising.__eq__" = true)
    (k24 : PySem.W.keepIn K (.ref f24) = true)
    (a25 : PySem.W.findIn K (.ref C_Rising) "__le__" = some (some (.ref f25)))
    (i25 : PySem.W.isFn K (.ref f25) = true)
    (l25 : K.lookup f25 = some ⟨oc25, od25, .func (PySem.W.fnOf "__le__" "Rising.__le__" (defArgs (inTop 40 4)) (defBody (inTop 40 4)) (defScope (inTop 40 4)) .none kV25 dc25 pm25 an25 cd25 ct25), sl25⟩)
    (c25 : PySem.W.codeIn K cd25 "Rising.__le__" = true)
    (k25 : PySem.W.keepIn K (.ref f25) = true)
    (a26 : PySem.W.findIn K (.ref C_Rising) "last" = some (some (.ref f26)))
    (i26 : PySem.W.isFn K (.ref f26) = true)
    (l26 : K.lookup f26 = some ⟨oc26, od26, .func (PySem.W.fnOf "last" "Rising.last" (defArgs (inTop 40 9)) (defBody (inTop 40 9)) (defScope (inTop 40 9)) .none kV26 dc26 pm26 an26 cd26 ct26), sl26⟩)
    (c26 : PySem.W.codeIn K cd26 "Rising.last" = true)
    (k26 : PySem.W.keepIn K (.ref f26) = true)
    (a27 : PySem.W.nsIn K mainGlobals "need_maps" = some (some (.ref f27)))
    (l27 : K.lookup f27 = some ⟨oc27, od27, .func (PySem.W.fnOf "need_maps" "need_maps" (defArgs (top 41)) (defBody (top 41)) (defScope (top 41)) .none kV27 dc27 pm27 an27 cd27 ct27), sl27⟩)
    (c27 : PySem.W.codeIn K cd27 "need_maps" = true)
    (k27 : PySem.W.keepIn K (.ref f27) = true)
    (a28 : PySem.W.nsIn K mainGlobals "first_unlike" = some (some (.ref f28)))
    (l28 : K.lookup f28 = some ⟨oc28, od28, .func (PySem.W.fnOf "first_unlike" "first_unlike" (defArgs (top 42)) (defBody (top 42)) (defScope (top 42)) .none kV28 dc28 pm28 an28 cd28 ct28), sl28⟩)
    (c28 : PySem.W.codeIn K cd28 "first_unlike" = true)
    (k28 : PySem.W.keepIn K (.ref f28) = true)
    (a29 : PySem.W.nsIn K mainGlobals "first_above" = some (some (.ref f29)))
    (l29 : K.lookup f29 = some ⟨oc29, od29, .func (PySem.W.fnOf "first_above" "first_above" (defArgs (top 43)) (defBody (top 43)) (defScope (top 43)) .none kV29 dc29 pm29 an29 cd29 ct29), sl29⟩)
    (c29 : PySem.W.codeIn K cd29 "first_above" = true)
    (k29 : PySem.W.keepIn K (.ref f29) = true)
    (a30 : PySem.W.nsIn K mainGlobals "_law_pool" = some (some (.ref f30)))
    (l30 : K.lookup f30 = some ⟨oc30, od30, .func (PySem.W.fnOf "_law_pool" "_law_pool" (defArgs (top 45)) (defBody (top 45)) (defScope (top 45)) .none kV30 dc30 pm30 an30 cd30 ct30), sl30⟩)
    (c30 : PySem.W.codeIn K cd30 "_law_pool" = true)
    (k30 : PySem.W.keepIn K (.ref f30) = true)
    (a31 : PySem.W.nsIn K mainGlobals "_law_take" = some (some (.ref f31)))
    (l31 : K.lookup f31 = some ⟨oc31, od31, .func (PySem.W.fnOf "_law_take" "_law_take" (defArgs (top 46)) (defBody (top 46)) (defScope (top 46)) .none kV31 dc31 pm31 an31 cd31 ct31), sl31⟩)
    (c31 : PySem.W.codeIn K cd31 "_law_take" = true)
    (k31 : PySem.W.keepIn K (.ref f31) = true)
    (a32 : PySem.W.nsIn K mainGlobals "_law_one" = some (some (.ref f32)))
    (l32 : K.lookup f32 = some ⟨oc32, od32, .func (PySem.W.fnOf "_law_one" "_law_one" (defArgs (top 47)) (defBody (top 47)) (defScope (top 47)) .none kV32 dc32 pm32 an32 cd32 ct32), sl32⟩)
    (c32 : PySem.W.codeIn K cd32 "_law_one" = true)
    (k32 : PySem.W.keepIn K (.ref f32) = true)
    (a33 : PySem.W.nsIn K mainGlobals "_law_rounds" = some (some (.ref f33)))
    (l33 : K.lookup f33 = some ⟨oc33, od33, .func (PySem.W.fnOf "_law_rounds" "_law_rounds" (defArgs (top 48)) (defBody (top 48)) (defScope (top 48)) .none kV33 dc33 pm33 an33 cd33 ct33), sl33⟩)
    (c33 : PySem.W.codeIn K cd33 "_law_rounds" = true)
    (k33 : PySem.W.keepIn K (.ref f33) = true)
    (a34 : PySem.W.nsIn K mainGlobals "_law_rows" = some (some (.ref f34)))
    (l34 : K.lookup f34 = some ⟨oc34, od34, .func (PySem.W.fnOf "_law_rows" "_law_rows" (defArgs (top 49)) (defBody (top 49)) (defScope (top 49)) .none kV34 dc34 pm34 an34 cd34 ct34), sl34⟩)
    (c34 : PySem.W.codeIn K cd34 "_law_rows" = true)
    (k34 : PySem.W.keepIn K (.ref f34) = true)
    (a35 : PySem.W.nsIn K mainGlobals "_law_value" = some (some (.ref f35)))
    (l35 : K.lookup f35 = some ⟨oc35, od35, .func (PySem.W.fnOf "_law_value" "_law_value" (defArgs (top 50)) (defBody (top 50)) (defScope (top 50)) .none kV35 dc35 pm35 an35 cd35 ct35), sl35⟩)
    (c35 : PySem.W.codeIn K cd35 "_law_value" = true)
    (k35 : PySem.W.keepIn K (.ref f35) = true)
    (a36 : PySem.W.nsIn K mainGlobals "_law_values" = some (some (.ref f36)))
    (l36 : K.lookup f36 = some ⟨oc36, od36, .func (PySem.W.fnOf "_law_values" "_law_values" (defArgs (top 51)) (defBody (top 51)) (defScope (top 51)) .none kV36 dc36 pm36 an36 cd36 ct36), sl36⟩)
    (c36 : PySem.W.codeIn K cd36 "_law_values" = true)
    (k36 : PySem.W.keepIn K (.ref f36) = true)
    (a37 : PySem.W.nsIn K mainGlobals "_law_above" = some (some (.ref f37)))
    (l37 : K.lookup f37 = some ⟨oc37, od37, .func (PySem.W.fnOf "_law_above" "_law_above" (defArgs (top 52)) (defBody (top 52)) (defScope (top 52)) .none kV37 dc37 pm37 an37 cd37 ct37), sl37⟩)
    (c37 : PySem.W.codeIn K cd37 "_law_above" = true)
    (k37 : PySem.W.keepIn K (.ref f37) = true)
    (a38 : PySem.W.nsIn K mainGlobals "_law_turned_row" = some (some (.ref f38)))
    (l38 : K.lookup f38 = some ⟨oc38, od38, .func (PySem.W.fnOf "_law_turned_row" "_law_turned_row" (defArgs (top 54)) (defBody (top 54)) (defScope (top 54)) .none kV38 dc38 pm38 an38 cd38 ct38), sl38⟩)
    (c38 : PySem.W.codeIn K cd38 "_law_turned_row" = true)
    (k38 : PySem.W.keepIn K (.ref f38) = true)
    (a39 : PySem.W.nsIn K mainGlobals "_law_last" = some (some (.ref f39)))
    (l39 : K.lookup f39 = some ⟨oc39, od39, .func (PySem.W.fnOf "_law_last" "_law_last" (defArgs (top 55)) (defBody (top 55)) (defScope (top 55)) .none kV39 dc39 pm39 an39 cd39 ct39), sl39⟩)
    (c39 : PySem.W.codeIn K cd39 "_law_last" = true)
    (k39 : PySem.W.keepIn K (.ref f39) = true)
    (a40 : PySem.W.nsIn K mainGlobals "_law_asked_right" = some (some (.ref f40)))
    (l40 : K.lookup f40 = some ⟨oc40, od40, .func (PySem.W.fnOf "_law_asked_right" "_law_asked_right" (defArgs (top 56)) (defBody (top 56)) (defScope (top 56)) .none kV40 dc40 pm40 an40 (.ref cc40) ct40), sl40⟩)
    (c40 : PySem.W.codeIn K (.ref cc40) "_law_asked_right" = true)
    (k40 : PySem.W.keepIn K (.ref f40) = true)
    (xc40 : K.lookup cc40 = some ⟨xo40, xd40, .fields xv40, xs40⟩)
    (xp40 : (xv40[11]? : Option Value) = some (.ref P40))
    (n40 : K.lookup P40 = none)
    (a41 : PySem.W.nsIn K mainGlobals "law" = some (some (.ref f41)))
    (l41 : K.lookup f41 = some ⟨oc41, od41, .func (PySem.W.fnOf "law" "law" (defArgs (top 57)) (defBody (top 57)) (defScope (top 57)) .none kV41 dc41 pm41 an41 (.ref cc41) ct41), sl41⟩)
    (c41 : PySem.W.codeIn K (.ref cc41) "law" = true)
    (k41 : PySem.W.keepIn K (.ref f41) = true)
    (xc41 : K.lookup cc41 = some ⟨xo41, xd41, .fields xv41, xs41⟩)
    (xp41 : (xv41[11]? : Option Value) = some (.ref P41))
    (n41 : K.lookup P41 = none)
    (d40_41 : P40 ≠ P41)
    (aH0 : PySem.W.nsIn K mainGlobals "_law_caught" = some (some (.ref fH0)))
    (lH0 : K.lookup fH0 = some ⟨ocH0, odH0, .func (PySem.W.fnOf "_law_caught" "_law_caught" (defArgs (top 53)) (defBody (top 53)) (defScope (top 53)) .none kVH0 dcH0 pmH0 anH0 cdH0 ctH0), slH0⟩)
    (cH0 : PySem.W.codeIn K cdH0 "_law_caught" = true)
    (kH0 : PySem.W.keepIn K (.ref fH0) = true)
    (fi_Rising : PySem.W.fnIn K f23 = true)
    (math : ∀ [TabsW] [GdW] (ns : List Int), ns.length ≤ 63 → ∃ out, semB g_law 14 none b_law [.lst (ns.map .int)] = .ok (.bl true) out)
    : @LawG ⟨True⟩ l w K (L2.CX l.prog w) 9 63 "_law_script" mg fa h := by
  letI I1 : TabsW := ⟨[(P40, (PySem.Str.ofString "_law_asked_right" ++ PySem.Str.ofString ".<locals>." ++ "<lambda>")), (P41, (PySem.Str.ofString "law" ++ PySem.Str.ofString ".<locals>." ++ "<lambda>"))]⟩
  letI I0 : GdW := ⟨True⟩
  have e := hfa.symm.trans (PySem.W.mg_of X G a41)
  cases e
  have g_Rising := PySem.W.mg_of X G aC_Rising
  have h_Rising := clsAt_of aC_Rising
  subst h_Rising
  have g_BadPart := PySem.W.mg_of X G aC_BadPart
  have h_BadPart := clsAt_of aC_BadPart
  subst h_BadPart
  have g_BadNumber := PySem.W.mg_of X G aC_BadNumber
  have h_BadNumber := clsAt_of aC_BadNumber
  subst h_BadNumber
  have g_BadIndex := PySem.W.mg_of X G aC_BadIndex
  have h_BadIndex := clsAt_of aC_BadIndex
  subst h_BadIndex
  have T_BadPart : PySem.ErrBadPart.LowTxt K mg (clsAt K "BadPart") I_BadPart := { gC := g_BadPart, cls := ⟨_, _, _, _, _, _, _, _, _, _, _, _, _, _, _, xC_BadPart, by rfl⟩, sa := saC_BadPart, ga := gaC_BadPart, gg := ggC_BadPart, noN := nbC_BadPart, iC := iC_BadPart, tC := tiC_BadPart, kC := kC_BadPart, exC := eC_BadPart, tyC := tyC_BadPart, hdC := hdC_BadPart, te := exm_cc eC_BadPart icC_BadPart tyC_BadPart su_BadPart_BadPart, fn := ⟨_, _, _, _, _, _, _, _, _, _, _, _, _, _, lC_BadPart, cC_BadPart⟩ }
  have T_BadNumber : PySem.ErrBadNumber.LowTxt K mg (clsAt K "BadNumber") I_BadNumber := { gC := g_BadNumber, cls := ⟨_, _, _, _, _, _, _, _, _, _, _, _, _, _, _, xC_BadNumber, by rfl⟩, sa := saC_BadNumber, ga := gaC_BadNumber, gg := ggC_BadNumber, noN := nbC_BadNumber, iC := iC_BadNumber, tC := tiC_BadNumber, kC := kC_BadNumber, exC := eC_BadNumber, tyC := tyC_BadNumber, hdC := hdC_BadNumber, te := exm_cc eC_BadNumber icC_BadNumber tyC_BadNumber su_BadNumber_BadNumber, fn := ⟨_, _, _, _, _, _, _, _, _, _, _, _, _, _, lC_BadNumber, cC_BadNumber⟩ }
  have T_BadIndex : PySem.ErrBadIndex.LowTxt K mg (clsAt K "BadIndex") I_BadIndex := { gC := g_BadIndex, cls := ⟨_, _, _, _, _, _, _, _, _, _, _, _, _, _, _, xC_BadIndex, by rfl⟩, sa := saC_BadIndex, ga := gaC_BadIndex, gg := ggC_BadIndex, noN := nbC_BadIndex, iC := iC_BadIndex, tC := tiC_BadIndex, kC := kC_BadIndex, exC := eC_BadIndex, tyC := tyC_BadIndex, hdC := hdC_BadIndex, te := exm_cc eC_BadIndex icC_BadIndex tyC_BadIndex su_BadIndex_BadIndex, fn := ⟨_, _, _, _, _, _, _, _, _, _, _, _, _, _, lC_BadIndex, cC_BadIndex⟩ }
  have ex_BadPart_BadPart : PySem.W.exmOne K (.ref (clsAt K "BadPart")) (.ref (clsAt K "BadPart")) = some (decide (("BadPart" : Str) = "BadPart")) := (exm_cc eC_BadPart icC_BadPart tyC_BadPart su_BadPart_BadPart).trans (by decide +kernel)
  have ex_BadPart_BadIndex : PySem.W.exmOne K (.ref (clsAt K "BadPart")) (.ref (clsAt K "BadIndex")) = some (decide (("BadPart" : Str) = "BadIndex")) := (exm_cc eC_BadIndex icC_BadIndex tyC_BadIndex su_BadPart_BadIndex).trans (by decide +kernel)
  have ex_BadPart_BadNumber : PySem.W.exmOne K (.ref (clsAt K "BadPart")) (.ref (clsAt K "BadNumber")) = some (decide (("BadPart" : Str) = "BadNumber")) := (exm_cc eC_BadNumber icC_BadNumber tyC_BadNumber su_BadPart_BadNumber).trans (by decide +kernel)
  have ex_BadIndex_BadPart : PySem.W.exmOne K (.ref (clsAt K "BadIndex")) (.ref (clsAt K "BadPart")) = some (decide (("BadIndex" : Str) = "BadPart")) := (exm_cc eC_BadPart icC_BadPart tyC_BadPart su_BadIndex_BadPart).trans (by decide +kernel)
  have ex_BadIndex_BadIndex : PySem.W.exmOne K (.ref (clsAt K "BadIndex")) (.ref (clsAt K "BadIndex")) = some (decide (("BadIndex" : Str) = "BadIndex")) := (exm_cc eC_BadIndex icC_BadIndex tyC_BadIndex su_BadIndex_BadIndex).trans (by decide +kernel)
  have ex_BadIndex_BadNumber : PySem.W.exmOne K (.ref (clsAt K "BadIndex")) (.ref (clsAt K "BadNumber")) = some (decide (("BadIndex" : Str) = "BadNumber")) := (exm_cc eC_BadNumber icC_BadNumber tyC_BadNumber su_BadIndex_BadNumber).trans (by decide +kernel)
  have ex_BadNumber_BadPart : PySem.W.exmOne K (.ref (clsAt K "BadNumber")) (.ref (clsAt K "BadPart")) = some (decide (("BadNumber" : Str) = "BadPart")) := (exm_cc eC_BadPart icC_BadPart tyC_BadPart su_BadNumber_BadPart).trans (by decide +kernel)
  have ex_BadNumber_BadIndex : PySem.W.exmOne K (.ref (clsAt K "BadNumber")) (.ref (clsAt K "BadIndex")) = some (decide (("BadNumber" : Str) = "BadIndex")) := (exm_cc eC_BadIndex icC_BadIndex tyC_BadIndex su_BadNumber_BadIndex).trans (by decide +kernel)
  have ex_BadNumber_BadNumber : PySem.W.exmOne K (.ref (clsAt K "BadNumber")) (.ref (clsAt K "BadNumber")) = some (decide (("BadNumber" : Str) = "BadNumber")) := (exm_cc eC_BadNumber icC_BadNumber tyC_BadNumber su_BadNumber_BadNumber).trans (by decide +kernel)
  have EF__law_caught : ClsFacts K cs__law_caught := ⟨fun c hc c' hc' => by
    unfold cs__law_caught at hc hc'
    simp only [List.mem_cons, List.not_mem_nil, or_false] at hc hc'
    rcases hc with rfl | rfl | rfl <;> rcases hc' with rfl | rfl | rfl <;> first | exact ex_BadPart_BadPart | exact ex_BadPart_BadIndex | exact ex_BadPart_BadNumber | exact ex_BadIndex_BadPart | exact ex_BadIndex_BadIndex | exact ex_BadIndex_BadNumber | exact ex_BadNumber_BadPart | exact ex_BadNumber_BadIndex | exact ex_BadNumber_BadNumber⟩
  have F0 := fun_mk (st := (top 7)) l0 c0 k0
  have b0 := F0.binds (ps := ["value"]) fun _ _ _ _ _ _ us hl => match us, hl with | [_], _ => rfl
  have F1 := fun_mk (st := (top 8)) l1 c1 k1
  have b1 := F1.binds (ps := ["value"]) fun _ _ _ _ _ _ us hl => match us, hl with | [_], _ => rfl
  have F2 := fun_mk (st := (top 9)) l2 c2 k2
  have b2 := F2.binds (ps := ["value"]) fun _ _ _ _ _ _ us hl => match us, hl with | [_], _ => rfl
  have F3 := fun_mk (st := (top 10)) l3 c3 k3
  have b3 := F3.binds (ps := ["value"]) fun _ _ _ _ _ _ us hl => match us, hl with | [_], _ => rfl
  have F4 := fun_mk (st := (top 12)) l4 c4 k4
  have b4 := F4.binds (ps := ["number"]) fun _ _ _ _ _ _ us hl => match us, hl with | [_], _ => rfl
  have F5 := fun_mk (st := (top 14)) l5 c5 k5
  have b5 := F5.binds (ps := ["one", "other"]) fun _ _ _ _ _ _ us hl => match us, hl with | [_, _], _ => rfl
  have F6 := fun_mk (st := (top 15)) l6 c6 k6
  have b6 := F6.binds (ps := ["one", "other"]) fun _ _ _ _ _ _ us hl => match us, hl with | [_, _], _ => rfl
  have F7 := fun_mk (st := (top 18)) l7 c7 k7
  have b7 := F7.binds (ps := ["row", "minute"]) fun _ _ _ _ _ _ us hl => match us, hl with | [_, _], _ => rfl
  have F8 := fun_mk (st := (top 19)) l8 c8 k8
  have b8 := F8.binds (ps := ["rows", "minute"]) fun _ _ _ _ _ _ us hl => match us, hl with | [_, _], _ => rfl
  have F9 := fun_mk (st := (top 20)) l9 c9 k9
  have b9 := F9.binds (ps := ["rows", "minute"]) fun _ _ _ _ _ _ us hl => match us, hl with | [_, _], _ => rfl
  have F10 := fun_mk (st := (top 21)) l10 c10 k10
  have b10 := F10.binds (ps := ["rows", "place"]) fun _ _ _ _ _ _ us hl => match us, hl with | [_, _], _ => rfl
  have F11 := fun_mk (st := (top 22)) l11 c11 k11
  have b11 := F11.binds (ps := ["row"]) fun _ _ _ _ _ _ us hl => match us, hl with | [_], _ => rfl
  have F12 := fun_mk (st := (top 23)) l12 c12 k12
  have b12 := F12.binds (ps := ["row"]) fun _ _ _ _ _ _ us hl => match us, hl with | [_], _ => rfl
  have F13 := fun_mk (st := (top 24)) l13 c13 k13
  have b13 := F13.binds (ps := ["row", "ahead"]) fun _ _ _ _ _ _ us hl => match us, hl with | [_, _], _ => rfl
  have F14 := fun_mk (st := (top 25)) l14 c14 k14
  have b14 := F14.binds (ps := ["rows"]) fun _ _ _ _ _ _ us hl => match us, hl with | [_], _ => rfl
  have F15 := fun_mk (st := (top 26)) l15 c15 k15
  have b15 := F15.binds (ps := ["start", "end"]) fun _ _ _ _ _ _ us hl => match us, hl with | [_, _], _ => rfl
  have F16 := fun_mk (st := (top 27)) l16 c16 k16
  have b16 := F16.binds (ps := ["row", "minute", "value"]) fun _ _ _ _ _ _ us hl => match us, hl with | [_, _, _], _ => rfl
  have F17 := fun_mk (st := (top 28)) l17 c17 k17
  have b17 := F17.binds (ps := ["rows"]) fun _ _ _ _ _ _ us hl => match us, hl with | [_], _ => rfl
  have F18 := fun_mk (st := (top 31)) l18 c18 k18
  have b18 := F18.binds (ps := ["tables"]) fun _ _ _ _ _ _ us hl => match us, hl with | [_], _ => rfl
  have F19 := fun_mk (st := (top 32)) l19 c19 k19
  have b19 := F19.binds (ps := ["tables", "start"]) fun _ _ _ _ _ _ us hl => match us, hl with | [_, _], _ => rfl
  have F20 := fun_mk (st := (top 37)) l20 c20 k20
  have b20 := F20.binds (ps := ["part", "other", "end"]) fun _ _ _ _ _ _ us hl => match us, hl with | [_, _, _], _ => rfl
  have F21 := fun_mk (st := (top 38)) l21 c21 k21
  have b21 := F21.binds (ps := ["rows", "others"]) fun _ _ _ _ _ _ us hl => match us, hl with | [_, _], _ => rfl
  have F22 := fun_mk (st := (inTop 40 0)) l22 c22 k22
  have b22 := F22.binds (ps := ["self", "rows"]) fun _ _ _ _ _ _ us hl => match us, hl with | [_, _], _ => rfl
  have F23 := fun_mk (st := (inTop 40 1)) l23 c23 k23
  have b23 := F23.binds (ps := ["self", "minute"]) fun _ _ _ _ _ _ us hl => match us, hl with | [_, _], _ => rfl
  have F24 := fun_mk (st := (inTop 40 3)) l24 c24 k24
  have b24 := F24.binds (ps := ["self", "other"]) fun _ _ _ _ _ _ us hl => match us, hl with | [_, _], _ => rfl
  have F25 := fun_mk (st := (inTop 40 4)) l25 c25 k25
  have b25 := F25.binds (ps := ["self", "other"]) fun _ _ _ _ _ _ us hl => match us, hl with | [_, _], _ => rfl
  have F26 := fun_mk (st := (inTop 40 9)) l26 c26 k26
  have b26 := F26.binds (ps := ["self"]) fun _ _ _ _ _ _ us hl => match us, hl with | [_], _ => rfl
  have F27 := fun_mk (st := (top 41)) l27 c27 k27
  have b27 := F27.binds (ps := ["maps"]) fun _ _ _ _ _ _ us hl => match us, hl with | [_], _ => rfl
  have F28 := fun_mk (st := (top 42)) l28 c28 k28
  have b28 := F28.binds (ps := ["one", "other"]) fun _ _ _ _ _ _ us hl => match us, hl with | [_, _], _ => rfl
  have F29 := fun_mk (st := (top 43)) l29 c29 k29
  have b29 := F29.binds (ps := ["one", "other"]) fun _ _ _ _ _ _ us hl => match us, hl with | [_, _], _ => rfl
  have F30 := fun_mk (st := (top 45)) l30 c30 k30
  have b30 := F30.binds (ps := ["_law_script", "_law_k"]) fun _ _ _ _ _ _ us hl => match us, hl with | [_, _], _ => rfl
  have F31 := fun_mk (st := (top 46)) l31 c31 k31
  have b31 := F31.binds (ps := ["_law_source", "_law_top"]) fun _ _ _ _ _ _ us hl => match us, hl with | [_, _], _ => rfl
  have F32 := fun_mk (st := (top 47)) l32 c32 k32
  have b32 := F32.binds (ps := ["_law_source", "_law_things"]) fun _ _ _ _ _ _ us hl => match us, hl with | [_, _], _ => rfl
  have F33 := fun_mk (st := (top 48)) l33 c33 k33
  have b33 := F33.binds (ps := ["_law_script"]) fun _ _ _ _ _ _ us hl => match us, hl with | [_], _ => rfl
  have F34 := fun_mk (st := (top 49)) l34 c34 k34
  have b34 := F34.binds (ps := ["_law_source"]) fun _ _ _ _ _ _ us hl => match us, hl with | [_], _ => rfl
  have F35 := fun_mk (st := (top 50)) l35 c35 k35
  have b35 := F35.binds (ps := ["_law_rows_here", "_law_t"]) fun _ _ _ _ _ _ us hl => match us, hl with | [_, _], _ => rfl
  have F36 := fun_mk (st := (top 51)) l36 c36 k36
  have b36 := F36.binds (ps := ["_law_call", "_law_many"]) fun _ _ _ _ _ _ us hl => match us, hl with | [_, _], _ => rfl
  have F37 := fun_mk (st := (top 52)) l37 c37 k37
  have b37 := F37.binds (ps := ["_law_one_here", "_law_other"]) fun _ _ _ _ _ _ us hl => match us, hl with | [_, _], _ => rfl
  have F38 := fun_mk (st := (top 54)) l38 c38 k38
  have b38 := F38.binds (ps := ["_law_source", "_law_rows_here"]) fun _ _ _ _ _ _ us hl => match us, hl with | [_, _], _ => rfl
  have F39 := fun_mk (st := (top 55)) l39 c39 k39
  have b39 := F39.binds (ps := ["_law_values_here"]) fun _ _ _ _ _ _ us hl => match us, hl with | [_], _ => rfl
  have F40 := fun_mk (st := (top 56)) l40 c40 k40
  have b40 := F40.binds (ps := ["_law_made", "_law_rows_here", "_law_values_here"]) fun _ _ _ _ _ _ us hl => match us, hl with | [_, _, _], _ => rfl
  have F41 := fun_mk (st := (top 57)) l41 c41 k41
  have b41 := F41.binds (ps := ["_law_script"]) fun _ _ _ _ _ _ us hl => match us, hl with | [_], _ => rfl
  have FH0 := fun_mk (st := (top 53)) lH0 cH0 kH0
  have bH0 := FH0.binds (ps := ["_law_call"]) fun _ _ _ _ _ _ us hl => match us, hl with | [_], _ => rfl
  have H__law_caught : HrdF K mg "_law_caught" (top 53) "_law_call" fH0 cdH0 := ⟨PySem.W.mg_of X G aH0, kH0, ⟨_, _, _, _, _, _, _, _, _, lH0, bH0⟩, cH0⟩
  have z_isinstance := PySem.W.mg_none_of X G Z_isinstance
  have z_int := PySem.W.mg_none_of X G Z_int
  have z_bool := PySem.W.mg_none_of X G Z_bool
  have z_list := PySem.W.mg_none_of X G Z_list
  have z_tuple := PySem.W.mg_none_of X G Z_tuple
  have z_len := PySem.W.mg_none_of X G Z_len
  have z_enumerate := PySem.W.mg_none_of X G Z_enumerate
  have z_range := PySem.W.mg_none_of X G Z_range
  have z_min := PySem.W.mg_none_of X G Z_min
  have z_sorted := PySem.W.mg_none_of X G Z_sorted
  have z_set := PySem.W.mg_none_of X G Z_set
  have z_all := PySem.W.mg_none_of X G Z_all
  have z_max := PySem.W.mg_none_of X G Z_max
  have z_repr := PySem.W.mg_none_of X G Z_repr
  have cl : ∀ C, C ∈ (["Rising"] : List Str) → Cls K (clsAt K C) := fun C hC => by
    simp only [List.mem_cons, List.not_mem_nil, or_false] at hC
    (subst hC; exact ⟨pgC_Rising, hdC_Rising, poC_Rising, saC_Rising⟩)
  have hC : ∀ C, C ∈ (["Rising"] : List Str) → IsC K C := fun C hC => by
    have cl0 := cl C hC
    simp only [List.mem_cons, List.not_mem_nil, or_false] at hC
    (subst hC; exact ⟨cl0, haC_Rising, oc_hn, oc_ht, hmC_Rising⟩)
  have hF : ClsF K ["Rising"] ["rows"] := ⟨cl, fun C hC f hf => by
    simp only [List.mem_cons, List.not_mem_nil, or_false] at hC hf
    rcases hf with hf <;> first | (subst hC; subst hf; exact nrowsC_Rising)⟩
  have nf_Rising : NFo K "Rising" := ⟨nfn_Rising, nfb_Rising, nfi_Rising, nfs_Rising, nfl_Rising, nft_Rising, nfd_Rising, nfe_Rising⟩
  have cf_Rising : CallFn K (clsAt K "Rising") := fun f hf => by
    have e := hf.symm.trans a23
    cases e
    exact fi_Rising
  have K_int : IsK K ["Rising"] .int (.type "int") := ⟨rfl, rfl, rfl, rfl, rfl, rfl, rfl, fun C hC => by
    simp only [List.mem_cons, List.not_mem_nil, or_false] at hC
    first | (subst hC; exact kit_ct rfl S_int_Rising)⟩
  have K_bool : IsK K ["Rising"] .bool (.type "bool") := ⟨rfl, rfl, rfl, rfl, rfl, rfl, rfl, fun C hC => by
    simp only [List.mem_cons, List.not_mem_nil, or_false] at hC
    first | (subst hC; exact kit_ct rfl S_bool_Rising)⟩
  have K_list : IsK K ["Rising"] .list (.type "list") := ⟨rfl, rfl, rfl, rfl, rfl, rfl, rfl, fun C hC => by
    simp only [List.mem_cons, List.not_mem_nil, or_false] at hC
    first | (subst hC; exact kit_ct rfl S_list_Rising)⟩
  have K_tuple : IsK K ["Rising"] .tuple (.type "tuple") := ⟨rfl, rfl, rfl, rfl, rfl, rfl, rfl, fun C hC => by
    simp only [List.mem_cons, List.not_mem_nil, or_false] at hC
    first | (subst hC; exact kit_ct rfl S_tuple_Rising)⟩
  have K_Rising : IsK K ["Rising"] (.cls "Rising") (.ref (clsAt K "Rising")) := ⟨kit_tc iC_Rising tC_Rising rfl, kit_tc iC_Rising tC_Rising rfl, kit_tc iC_Rising tC_Rising rfl, kit_tc iC_Rising tC_Rising rfl, kit_tc iC_Rising tC_Rising rfl, kit_tc iC_Rising tC_Rising rfl, kit_tc iC_Rising tC_Rising rfl, fun C hC => by
    simp only [List.mem_cons, List.not_mem_nil, or_false] at hC
    first | (subst hC; exact kit_self)⟩
  refine ⟨PySem.W.fnOf "law" "law" (defArgs (top 57)) (defBody (top 57)) (defScope (top 57)) .none kV41 dc41 pm41 an41 (.ref cc41) ct41, [(cc40, P40), (cc41, P41)], spLaw K, ?_, ?_, ?_, fun s v => .of_eq rfl, ?_, fun base _ _ TB => ?_⟩
  · intro p hp; simp only [List.mem_cons, List.not_mem_nil, or_false] at hp
    rcases hp with rfl | rfl <;> first | exact th40.2 | exact th41.2
  · intro p hp; simp only [List.mem_cons, List.not_mem_nil, or_false] at hp
    rcases hp with rfl | rfl <;> first | exact n40 | exact n41
  · intro p hp; simp only [List.mem_cons, List.not_mem_nil, or_false] at hp
    rcases hp with rfl | rfl <;> first | exact th40.1 | exact th41.1
  · intro H a ns hl hT hS
    refine ⟨a, ns, fun P q m => ?_, rfl, hS, hl, fun _ => rfl⟩
    have m : (P, q) ∈ ([(P40, (PySem.Str.ofString "_law_asked_right" ++ PySem.Str.ofString ".<locals>." ++ "<lambda>")), (P41, (PySem.Str.ofString "law" ++ PySem.Str.ofString ".<locals>." ++ "<lambda>"))] : List (Addr × Str)) := m
    simp only [List.mem_cons, List.not_mem_nil, or_false] at m
    rcases m with m | m <;> (cases m; first | exact tabS_empty (hT (cc40, P40) (by simp)) | exact tabS_empty (hT (cc41, P41) (by simp)))
  have m40 : (P40, (PySem.Str.ofString "_law_asked_right" ++ PySem.Str.ofString ".<locals>." ++ "<lambda>")) ∈ I1.T := by show _ ∈ ([(P40, (PySem.Str.ofString "_law_asked_right" ++ PySem.Str.ofString ".<locals>." ++ "<lambda>")), (P41, (PySem.Str.ofString "law" ++ PySem.Str.ofString ".<locals>." ++ "<lambda>"))] : List (Addr × Str)); simp
  have o40 : ∀ p ∈ I1.T, p.1 = P40 → p.2 = (PySem.Str.ofString "_law_asked_right" ++ PySem.Str.ofString ".<locals>." ++ "<lambda>") := fun p hp hq => by
    have hp : p ∈ ([(P40, (PySem.Str.ofString "_law_asked_right" ++ PySem.Str.ofString ".<locals>." ++ "<lambda>")), (P41, (PySem.Str.ofString "law" ++ PySem.Str.ofString ".<locals>." ++ "<lambda>"))] : List (Addr × Str)) := hp
    simp only [List.mem_cons, List.not_mem_nil, or_false] at hp
    rcases hp with rfl | rfl <;> first | exact absurd hq (Ne.symm d40_41) | rfl
  have LT40 : LamT base mg (PySem.W.fnOf "_law_asked_right" "_law_asked_right" (defArgs (top 56)) (defBody (top 56)) (defScope (top 56)) .none kV40 dc40 pm40 an40 (.ref cc40) ct40) (PySem.Str.ofString "_law_asked_right" ++ PySem.Str.ofString ".<locals>.") cc40 P40 := ⟨rfl, TB (cc40, P40) (by simp), m40, o40⟩
  have m41 : (P41, (PySem.Str.ofString "law" ++ PySem.Str.ofString ".<locals>." ++ "<lambda>")) ∈ I1.T := by show _ ∈ ([(P40, (PySem.Str.ofString "_law_asked_right" ++ PySem.Str.ofString ".<locals>." ++ "<lambda>")), (P41, (PySem.Str.ofString "law" ++ PySem.Str.ofString ".<locals>." ++ "<lambda>"))] : List (Addr × Str)); simp
  have o41 : ∀ p ∈ I1.T, p.1 = P41 → p.2 = (PySem.Str.ofString "law" ++ PySem.Str.ofString ".<locals>." ++ "<lambda>") := fun p hp hq => by
    have hp : p ∈ ([(P40, (PySem.Str.ofString "_law_asked_right" ++ PySem.Str.ofString ".<locals>." ++ "<lambda>")), (P41, (PySem.Str.ofString "law" ++ PySem.Str.ofString ".<locals>." ++ "<lambda>"))] : List (Addr × Str)) := hp
    simp only [List.mem_cons, List.not_mem_nil, or_false] at hp
    rcases hp with rfl | rfl <;> first | exact absurd hq d40_41 | rfl
  have LT41 : LamT base mg (PySem.W.fnOf "law" "law" (defArgs (top 57)) (defBody (top 57)) (defScope (top 57)) .none kV41 dc41 pm41 an41 (.ref cc41) ct41) (PySem.Str.ofString "law" ++ PySem.Str.ofString ".<locals>.") cc41 P41 := ⟨rfl, TB (cc41, P41) (by simp), m41, o41⟩
  have FF_is_whole : @FnF I1 ⟨False⟩ l.prog w K mg base 1 "is_whole" f_is_whole := by letI I2 : GdW := ⟨False⟩; exact fnF_mk (by decide) (PySem.W.mg_of X G a0) k0 (ok_is_whole (P := l.prog) (w := w) (mg := mg) (base := base) F0 (z_isinstance := z_isinstance) (z_int := z_int) (z_bool := z_bool) (hC := hC) (K_int := K_int) (K_bool := K_bool)) b0
  have FU_is_whole : @FnF I1 ⟨True⟩ l.prog w K mg base 1 "is_whole" f_is_whole := by letI I2 : GdW := ⟨True⟩; exact fnF_mk (by decide) (PySem.W.mg_of X G a0) k0 (ok_is_whole (P := l.prog) (w := w) (mg := mg) (base := base) F0 (z_isinstance := z_isinstance) (z_int := z_int) (z_bool := z_bool) (hC := hC) (K_int := K_int) (K_bool := K_bool)) b0
  have FF_is_count : @FnF I1 ⟨False⟩ l.prog w K mg base 2 "is_count" f_is_count := by letI I2 : GdW := ⟨False⟩; exact fnF_mk (by decide) (PySem.W.mg_of X G a1) k1 (ok_is_count (P := l.prog) (w := w) (mg := mg) (base := base) F1 (F_is_whole := FF_is_whole)) b1
  have FU_is_count : @FnF I1 ⟨True⟩ l.prog w K mg base 2 "is_count" f_is_count := by letI I2 : GdW := ⟨True⟩; exact fnF_mk (by decide) (PySem.W.mg_of X G a1) k1 (ok_is_count (P := l.prog) (w := w) (mg := mg) (base := base) F1 (F_is_whole := FU_is_whole)) b1
  have FF_is_count_or_never : @FnF I1 ⟨False⟩ l.prog w K mg base 3 "is_count_or_never" f_is_count_or_never := by letI I2 : GdW := ⟨False⟩; exact fnF_mk (by decide) (PySem.W.mg_of X G a2) k2 (ok_is_count_or_never (P := l.prog) (w := w) (mg := mg) (base := base) F2 (F_is_count := FF_is_count)) b2
  have FU_is_count_or_never : @FnF I1 ⟨True⟩ l.prog w K mg base 3 "is_count_or_never" f_is_count_or_never := by letI I2 : GdW := ⟨True⟩; exact fnF_mk (by decide) (PySem.W.mg_of X G a2) k2 (ok_is_count_or_never (P := l.prog) (w := w) (mg := mg) (base := base) F2 (F_is_count := FU_is_count)) b2
  have FF_is_listed : @FnF I1 ⟨False⟩ l.prog w K mg base 1 "is_listed" f_is_listed := by letI I2 : GdW := ⟨False⟩; exact fnF_mk (by decide) (PySem.W.mg_of X G a3) k3 (ok_is_listed (P := l.prog) (w := w) (mg := mg) (base := base) F3 (z_isinstance := z_isinstance) (z_list := z_list) (z_tuple := z_tuple) (hC := hC) (K_list := K_list) (K_tuple := K_tuple)) b3
  have FU_is_listed : @FnF I1 ⟨True⟩ l.prog w K mg base 1 "is_listed" f_is_listed := by letI I2 : GdW := ⟨True⟩; exact fnF_mk (by decide) (PySem.W.mg_of X G a3) k3 (ok_is_listed (P := l.prog) (w := w) (mg := mg) (base := base) F3 (z_isinstance := z_isinstance) (z_list := z_list) (z_tuple := z_tuple) (hC := hC) (K_list := K_list) (K_tuple := K_tuple)) b3
  have FF_need_minute : @FnF I1 ⟨False⟩ l.prog w K mg base 4 "need_minute" f_need_minute := by letI I2 : GdW := ⟨False⟩; exact fnF_mk (by decide) (PySem.W.mg_of X G a4) k4 (ok_need_minute (P := l.prog) (w := w) (mg := mg) (base := base) F4 (F_is_count_or_never := FF_is_count_or_never) (T_BadNumber := T_BadNumber)) b4
  have FU_need_minute : @FnF I1 ⟨True⟩ l.prog w K mg base 4 "need_minute" f_need_minute := by letI I2 : GdW := ⟨True⟩; exact fnF_mk (by decide) (PySem.W.mg_of X G a4) k4 (ok_need_minute (P := l.prog) (w := w) (mg := mg) (base := base) F4 (F_is_count_or_never := FU_is_count_or_never) (T_BadNumber := T_BadNumber)) b4
  have FF_is_less : @FnF I1 ⟨False⟩ l.prog w K mg base 1 "is_less" f_is_less := by letI I2 : GdW := ⟨False⟩; exact fnF_mk (by decide) (PySem.W.mg_of X G a5) k5 (ok_is_less (P := l.prog) (w := w) (mg := mg) (base := base) F5 ) b5
  have FU_is_less : @FnF I1 ⟨True⟩ l.prog w K mg base 1 "is_less" f_is_less := by letI I2 : GdW := ⟨True⟩; exact fnF_mk (by decide) (PySem.W.mg_of X G a5) k5 (ok_is_less (P := l.prog) (w := w) (mg := mg) (base := base) F5 ) b5
  have FF_lesser : @FnF I1 ⟨False⟩ l.prog w K mg base 2 "lesser" f_lesser := by letI I2 : GdW := ⟨False⟩; exact fnF_mk (by decide) (PySem.W.mg_of X G a6) k6 (ok_lesser (P := l.prog) (w := w) (mg := mg) (base := base) F6 (F_is_less := FF_is_less)) b6
  have FU_lesser : @FnF I1 ⟨True⟩ l.prog w K mg base 2 "lesser" f_lesser := by letI I2 : GdW := ⟨True⟩; exact fnF_mk (by decide) (PySem.W.mg_of X G a6) k6 (ok_lesser (P := l.prog) (w := w) (mg := mg) (base := base) F6 (F_is_less := FU_is_less)) b6
  have FF_row_gives : @FnF I1 ⟨False⟩ l.prog w K mg base 1 "row_gives" f_row_gives := by letI I2 : GdW := ⟨False⟩; exact fnF_mk (by decide) (PySem.W.mg_of X G a7) k7 (ok_row_gives (P := l.prog) (w := w) (mg := mg) (base := base) F7 ) b7
  have FU_row_gives : @FnF I1 ⟨True⟩ l.prog w K mg base 1 "row_gives" f_row_gives := by letI I2 : GdW := ⟨True⟩; exact fnF_mk (by decide) (PySem.W.mg_of X G a7) k7 (ok_row_gives (P := l.prog) (w := w) (mg := mg) (base := base) F7 ) b7
  have FF_place_at : @FnF I1 ⟨False⟩ l.prog w K mg base 1 "place_at" f_place_at := by letI I2 : GdW := ⟨False⟩; exact fnF_mk (by decide) (PySem.W.mg_of X G a8) k8 (ok_place_at (P := l.prog) (w := w) (mg := mg) (base := base) F8 (z_len := z_len)) b8
  have FU_place_at : @FnF I1 ⟨True⟩ l.prog w K mg base 1 "place_at" f_place_at := by letI I2 : GdW := ⟨True⟩; exact fnF_mk (by decide) (PySem.W.mg_of X G a8) k8 (ok_place_at (P := l.prog) (w := w) (mg := mg) (base := base) F8 (z_len := z_len)) b8
  have FF_value_at : @FnF I1 ⟨False⟩ l.prog w K mg base 2 "value_at" f_value_at := by letI I2 : GdW := ⟨False⟩; exact fnF_mk (by decide) (PySem.W.mg_of X G a9) k9 (ok_value_at (P := l.prog) (w := w) (mg := mg) (base := base) F9 (F_row_gives := FF_row_gives) (F_place_at := FF_place_at)) b9
  have FU_value_at : @FnF I1 ⟨True⟩ l.prog w K mg base 2 "value_at" f_value_at := by letI I2 : GdW := ⟨True⟩; exact fnF_mk (by decide) (PySem.W.mg_of X G a9) k9 (ok_value_at (P := l.prog) (w := w) (mg := mg) (base := base) F9 (F_row_gives := FU_row_gives) (F_place_at := FU_place_at)) b9
  have FU_end_of : @FnF I1 ⟨True⟩ l.prog w K mg base 1 "end_of" f_end_of := by letI I2 : GdW := ⟨True⟩; exact fnF_mk (by decide) (PySem.W.mg_of X G a10) k10 (ok_end_of (P := l.prog) (w := w) (mg := mg) (base := base) F10 (z_len := z_len)) b10
  have FU_is_row : @FnF I1 ⟨True⟩ l.prog w K mg base 2 "is_row" f_is_row := by letI I2 : GdW := ⟨True⟩; exact fnF_mk (by decide) (PySem.W.mg_of X G a11) k11 (ok_is_row (P := l.prog) (w := w) (mg := mg) (base := base) F11 (F_is_whole := FU_is_whole) (z_isinstance := z_isinstance) (z_tuple := z_tuple) (z_len := z_len) (z_bool := z_bool) (hC := hC) (K_tuple := K_tuple) (K_bool := K_bool)) b11
  have FU_is_right_alone : @FnF I1 ⟨True⟩ l.prog w K mg base 1 "is_right_alone" f_is_right_alone := by letI I2 : GdW := ⟨True⟩; exact fnF_mk (by decide) (PySem.W.mg_of X G a12) k12 (ok_is_right_alone (P := l.prog) (w := w) (mg := mg) (base := base) F12 ) b12
  have FU_is_right_behind : @FnF I1 ⟨True⟩ l.prog w K mg base 2 "is_right_behind" f_is_right_behind := by letI I2 : GdW := ⟨True⟩; exact fnF_mk (by decide) (PySem.W.mg_of X G a13) k13 (ok_is_right_behind (P := l.prog) (w := w) (mg := mg) (base := base) F13 (F_row_gives := FU_row_gives) (F_is_less := FU_is_less)) b13
  have FU_first_wrong : @FnF I1 ⟨True⟩ l.prog w K mg base 3 "first_wrong" f_first_wrong := by letI I2 : GdW := ⟨True⟩; exact fnF_mk (by decide) (PySem.W.mg_of X G a14) k14 (ok_first_wrong (P := l.prog) (w := w) (mg := mg) (base := base) F14 (F_is_row := FU_is_row) (F_is_right_alone := FU_is_right_alone) (F_is_right_behind := FU_is_right_behind) (z_enumerate := z_enumerate) (z_len := z_len)) b14
  have FU_first_minutes : @FnF I1 ⟨True⟩ l.prog w K mg base 1 "first_minutes" f_first_minutes := by letI I2 : GdW := ⟨True⟩; exact fnF_mk (by decide) (PySem.W.mg_of X G a15) k15 (ok_first_minutes (P := l.prog) (w := w) (mg := mg) (base := base) F15 (z_list := z_list) (z_range := z_range) (z_min := z_min) (z_int := z_int)) b15
  have FU_widened : @FnF I1 ⟨True⟩ l.prog w K mg base 2 "widened" f_widened := by letI I2 : GdW := ⟨True⟩; exact fnF_mk (by decide) (PySem.W.mg_of X G a16) k16 (ok_widened (P := l.prog) (w := w) (mg := mg) (base := base) F16 (F_row_gives := FU_row_gives)) b16
  have FU_told_rows : @FnF I1 ⟨True⟩ l.prog w K mg base 3 "told_rows" f_told_rows := by letI I2 : GdW := ⟨True⟩; exact fnF_mk (by decide) (PySem.W.mg_of X G a17) k17 (ok_told_rows (P := l.prog) (w := w) (mg := mg) (base := base) F17 (F_first_minutes := FU_first_minutes) (F_end_of := FU_end_of) (F_row_gives := FU_row_gives) (F_widened := FU_widened) (z_enumerate := z_enumerate) (z_tuple := z_tuple)) b17
  have FF_all_starts : @FnF I1 ⟨False⟩ l.prog w K mg base 1 "all_starts" f_all_starts := by letI I2 : GdW := ⟨False⟩; exact fnF_mk (by decide) (PySem.W.mg_of X G a18) k18 (ok_all_starts (P := l.prog) (w := w) (mg := mg) (base := base) F18 (z_sorted := z_sorted) (z_set := z_set) (z_int := z_int)) b18
  have FU_all_starts : @FnF I1 ⟨True⟩ l.prog w K mg base 1 "all_starts" f_all_starts := by letI I2 : GdW := ⟨True⟩; exact fnF_mk (by decide) (PySem.W.mg_of X G a18) k18 (ok_all_starts (P := l.prog) (w := w) (mg := mg) (base := base) F18 (z_sorted := z_sorted) (z_set := z_set) (z_int := z_int)) b18
  have FF_parts_at : @FnF I1 ⟨False⟩ l.prog w K mg base 3 "parts_at" f_parts_at := by letI I2 : GdW := ⟨False⟩; exact fnF_mk (by decide) (PySem.W.mg_of X G a19) k19 (ok_parts_at (P := l.prog) (w := w) (mg := mg) (base := base) F19 (F_value_at := FF_value_at) (F_place_at := FF_place_at)) b19
  have FU_parts_at : @FnF I1 ⟨True⟩ l.prog w K mg base 3 "parts_at" f_parts_at := by letI I2 : GdW := ⟨True⟩; exact fnF_mk (by decide) (PySem.W.mg_of X G a19) k19 (ok_parts_at (P := l.prog) (w := w) (mg := mg) (base := base) F19 (F_value_at := FU_value_at) (F_place_at := FU_place_at)) b19
  have FF_part_over : @FnF I1 ⟨False⟩ l.prog w K mg base 2 "part_over" f_part_over := by letI I2 : GdW := ⟨False⟩; exact fnF_mk (by decide) (PySem.W.mg_of X G a20) k20 (ok_part_over (P := l.prog) (w := w) (mg := mg) (base := base) F20 (F_is_less := FF_is_less)) b20
  have FU_part_over : @FnF I1 ⟨True⟩ l.prog w K mg base 2 "part_over" f_part_over := by letI I2 : GdW := ⟨True⟩; exact fnF_mk (by decide) (PySem.W.mg_of X G a20) k20 (ok_part_over (P := l.prog) (w := w) (mg := mg) (base := base) F20 (F_is_less := FU_is_less)) b20
  have FF_first_over : @FnF I1 ⟨False⟩ l.prog w K mg base 4 "first_over" f_first_over := by letI I2 : GdW := ⟨False⟩; exact fnF_mk (by decide) (PySem.W.mg_of X G a21) k21 (ok_first_over (P := l.prog) (w := w) (mg := mg) (base := base) F21 (F_all_starts := FF_all_starts) (F_parts_at := FF_parts_at) (F_part_over := FF_part_over) (z_enumerate := z_enumerate) (z_len := z_len)) b21
  have FU_first_over : @FnF I1 ⟨True⟩ l.prog w K mg base 4 "first_over" f_first_over := by letI I2 : GdW := ⟨True⟩; exact fnF_mk (by decide) (PySem.W.mg_of X G a21) k21 (ok_first_over (P := l.prog) (w := w) (mg := mg) (base := base) F21 (F_all_starts := FU_all_starts) (F_parts_at := FU_parts_at) (F_part_over := FU_part_over) (z_enumerate := z_enumerate) (z_len := z_len)) b21
  have CU_Rising : @MkF I1 ⟨True⟩ l.prog w K mg base 4 "Rising" k_Rising := by letI I2 : GdW := ⟨True⟩; exact mkF_mk (by decide) g_Rising ⟨mkC_Rising, a22, i22, kcC_Rising⟩ (ok_Rising___init__ (P := l.prog) (w := w) (mg := mg) (base := base) (fun_toD F22) (cl _ (by simp)) (fun f hf => hF.no "Rising" (by simp) f (by revert f; decide +kernel)) init_Rising (F_is_listed := FU_is_listed) (F_first_wrong := FU_first_wrong) (F_told_rows := FU_told_rows) (T_BadPart := T_BadPart) (T_BadIndex := T_BadIndex) (z_len := z_len)) b22
  have MF___call__ : @MtF I1 ⟨False⟩ l.prog w K mg base 5 m_Rising___call__ := by letI I2 : GdW := ⟨False⟩; exact mtF_mk (cl _ (by simp)) ⟨a23, i23, k23⟩ (ok_Rising___call__ (P := l.prog) (w := w) (mg := mg) (base := base) F23 (F_need_minute := FF_need_minute) (F_value_at := FF_value_at) (hF := hF)) b23
  have MU___call__ : @MtF I1 ⟨True⟩ l.prog w K mg base 5 m_Rising___call__ := by letI I2 : GdW := ⟨True⟩; exact mtF_mk (cl _ (by simp)) ⟨a23, i23, k23⟩ (ok_Rising___call__ (P := l.prog) (w := w) (mg := mg) (base := base) F23 (F_need_minute := FU_need_minute) (F_value_at := FU_value_at) (hF := hF)) b23
  have MU___eq__ : @MtF I1 ⟨True⟩ l.prog w K mg base 1 m_Rising___eq__ := by letI I2 : GdW := ⟨True⟩; exact mtF_mk (cl _ (by simp)) ⟨a24, i24, k24⟩ (ok_Rising___eq__ (P := l.prog) (w := w) (mg := mg) (base := base) F24 (z_isinstance := z_isinstance) (hC := hC) (g_Rising := g_Rising) (K_Rising := K_Rising) (hF := hF)) b24
  have MU___le__ : @MtF I1 ⟨True⟩ l.prog w K mg base 5 m_Rising___le__ := by letI I2 : GdW := ⟨True⟩; exact mtF_mk (cl _ (by simp)) ⟨a25, i25, k25⟩ (ok_Rising___le__ (P := l.prog) (w := w) (mg := mg) (base := base) F25 (F_first_over := FU_first_over) (z_isinstance := z_isinstance) (hC := hC) (g_Rising := g_Rising) (K_Rising := K_Rising) (hF := hF)) b25
  have MU_last : @MtF I1 ⟨True⟩ l.prog w K mg base 1 m_Rising_last := by letI I2 : GdW := ⟨True⟩; exact mtF_mk (cl _ (by simp)) ⟨a26, i26, k26⟩ (ok_Rising_last (P := l.prog) (w := w) (mg := mg) (base := base) F26 (hF := hF)) b26
  have FF_need_maps : @FnF I1 ⟨False⟩ l.prog w K mg base 2 "need_maps" f_need_maps := by letI I2 : GdW := ⟨False⟩; exact fnF_mk (by decide) (PySem.W.mg_of X G a27) k27 (ok_need_maps (P := l.prog) (w := w) (mg := mg) (base := base) F27 (F_is_listed := FF_is_listed) (T_BadPart := T_BadPart) (z_len := z_len) (z_all := z_all) (z_isinstance := z_isinstance) (hC := hC) (g_Rising := g_Rising) (K_Rising := K_Rising)) b27
  have FU_need_maps : @FnF I1 ⟨True⟩ l.prog w K mg base 2 "need_maps" f_need_maps := by letI I2 : GdW := ⟨True⟩; exact fnF_mk (by decide) (PySem.W.mg_of X G a27) k27 (ok_need_maps (P := l.prog) (w := w) (mg := mg) (base := base) F27 (F_is_listed := FU_is_listed) (T_BadPart := T_BadPart) (z_len := z_len) (z_all := z_all) (z_isinstance := z_isinstance) (hC := hC) (g_Rising := g_Rising) (K_Rising := K_Rising)) b27
  have FF_first_unlike : @FnF I1 ⟨False⟩ l.prog w K mg base 5 "first_unlike" f_first_unlike := by letI I2 : GdW := ⟨False⟩; exact fnF_mk (by decide) (PySem.W.mg_of X G a28) k28 (ok_first_unlike (P := l.prog) (w := w) (mg := mg) (base := base) F28 (F_need_maps := FF_need_maps) (F_lesser := FF_lesser) (F_first_over := FF_first_over) (hF := hF)) b28
  have FU_first_unlike : @FnF I1 ⟨True⟩ l.prog w K mg base 5 "first_unlike" f_first_unlike := by letI I2 : GdW := ⟨True⟩; exact fnF_mk (by decide) (PySem.W.mg_of X G a28) k28 (ok_first_unlike (P := l.prog) (w := w) (mg := mg) (base := base) F28 (F_need_maps := FU_need_maps) (F_lesser := FU_lesser) (F_first_over := FU_first_over) (hF := hF)) b28
  have FF_first_above : @FnF I1 ⟨False⟩ l.prog w K mg base 5 "first_above" f_first_above := by letI I2 : GdW := ⟨False⟩; exact fnF_mk (by decide) (PySem.W.mg_of X G a29) k29 (ok_first_above (P := l.prog) (w := w) (mg := mg) (base := base) F29 (F_need_maps := FF_need_maps) (F_first_over := FF_first_over) (hF := hF)) b29
  have FU_first_above : @FnF I1 ⟨True⟩ l.prog w K mg base 5 "first_above" f_first_above := by letI I2 : GdW := ⟨True⟩; exact fnF_mk (by decide) (PySem.W.mg_of X G a29) k29 (ok_first_above (P := l.prog) (w := w) (mg := mg) (base := base) F29 (F_need_maps := FU_need_maps) (F_first_over := FU_first_over) (hF := hF)) b29
  have FU__law_pool : @FrF I1 ⟨True⟩ l.prog w K mg base 1 "_law_pool" f__law_pool := by letI I2 : GdW := ⟨True⟩; exact frF_mk (by decide) (PySem.W.mg_of X G a30) k30 (ok__law_pool (P := l.prog) (w := w) (mg := mg) (base := base) F30 (z_len := z_len) (z_max := z_max) (z_int := z_int)) b30
  have FU__law_take : @FnF I1 ⟨True⟩ l.prog w K mg base 1 "_law_take" f__law_take := by letI I2 : GdW := ⟨True⟩; exact fnF_mk (by decide) (PySem.W.mg_of X G a31) k31 (ok__law_take (P := l.prog) (w := w) (mg := mg) (base := base) F31 (z_int := z_int)) b31
  have FU__law_one : @FnF I1 ⟨True⟩ l.prog w K mg base 2 "_law_one" f__law_one := by letI I2 : GdW := ⟨True⟩; exact fnF_mk (by decide) (PySem.W.mg_of X G a32) k32 (ok__law_one (P := l.prog) (w := w) (mg := mg) (base := base) F32 (F__law_take := FU__law_take) (z_len := z_len)) b32
  have FU__law_rounds : @FnF I1 ⟨True⟩ l.prog w K mg base 1 "_law_rounds" f__law_rounds := by letI I2 : GdW := ⟨True⟩; exact fnF_mk (by decide) (PySem.W.mg_of X G a33) k33 (ok__law_rounds (P := l.prog) (w := w) (mg := mg) (base := base) F33 (z_list := z_list) (z_range := z_range) (z_max := z_max) (z_min := z_min) (z_len := z_len)) b33
  have FU__law_rows : @FnF I1 ⟨True⟩ l.prog w K mg base 3 "_law_rows" f__law_rows := by letI I2 : GdW := ⟨True⟩; exact fnF_mk (by decide) (PySem.W.mg_of X G a34) k34 (ok__law_rows (P := l.prog) (w := w) (mg := mg) (base := base) F34 (F__law_take := FU__law_take) (F__law_one := FU__law_one) (z_range := z_range) (z_min := z_min) (z_int := z_int) (z_max := z_max)) b34
  have FU__law_value : @FnF I1 ⟨True⟩ l.prog w K mg base 1 "_law_value" f__law_value := by letI I2 : GdW := ⟨True⟩; exact fnF_mk (by decide) (PySem.W.mg_of X G a35) k35 (ok__law_value (P := l.prog) (w := w) (mg := mg) (base := base) F35 (z_int := z_int)) b35
  have FU__law_values : @FnF I1 ⟨True⟩ l.prog w K mg base 6 "_law_values" f__law_values := by letI I2 : GdW := ⟨True⟩; exact fnF_mk (by decide) (PySem.W.mg_of X G a36) k36 (ok__law_values (P := l.prog) (w := w) (mg := mg) (base := base) F36 (M___call__ := MU___call__) (z_range := z_range) (cf_Rising := cf_Rising)) b36
  have FU__law_above : @FnF I1 ⟨True⟩ l.prog w K mg base 1 "_law_above" f__law_above := by letI I2 : GdW := ⟨True⟩; exact fnF_mk (by decide) (PySem.W.mg_of X G a37) k37 (ok__law_above (P := l.prog) (w := w) (mg := mg) (base := base) F37 ) b37
  have FU__law_turned_row : @FnF I1 ⟨True⟩ l.prog w K mg base 2 "_law_turned_row" f__law_turned_row := by letI I2 : GdW := ⟨True⟩; exact fnF_mk (by decide) (PySem.W.mg_of X G a38) k38 (ok__law_turned_row (P := l.prog) (w := w) (mg := mg) (base := base) F38 (F__law_take := FU__law_take) (F__law_value := FU__law_value) (z_max := z_max) (z_int := z_int)) b38
  have FU__law_last : @FnF I1 ⟨True⟩ l.prog w K mg base 1 "_law_last" f__law_last := by letI I2 : GdW := ⟨True⟩; exact fnF_mk (by decide) (PySem.W.mg_of X G a39) k39 (ok__law_last (P := l.prog) (w := w) (mg := mg) (base := base) F39 (z_range := z_range) (z_len := z_len)) b39
  have FU__law_asked_right : @FnF I1 ⟨True⟩ l.prog w K mg base 8 "_law_asked_right" f__law_asked_right := by letI I2 : GdW := ⟨True⟩; exact fnF_mk (by decide) (PySem.W.mg_of X G a40) k40 (ok__law_asked_right (P := l.prog) (w := w) (mg := mg) (base := base) F40 (F__law_values := FU__law_values) (F__law_last := FU__law_last) (F__law_value := FU__law_value) (M___call__ := MU___call__) (M_last := MU_last) (LM___call__ := MF___call__) (hgd := trivial) (T_BadPart := T_BadPart) (T_BadIndex := T_BadIndex) (T_BadNumber := T_BadNumber) (EF__law_caught := EF__law_caught) (H__law_caught := H__law_caught) (LT := LT40) (z_len := z_len) (z_repr := z_repr) (cf_Rising := cf_Rising)) b40
  letI I2 : GdW := ⟨True⟩
  exact (ok_law (P := l.prog) (w := w) (mg := mg) (base := base) F41 (F__law_rounds := FU__law_rounds) (F__law_rows := FU__law_rows) (F__law_one := FU__law_one) (F__law_turned_row := FU__law_turned_row) (F__law_value := FU__law_value) (F__law_asked_right := FU__law_asked_right) (F__law_above := FU__law_above) (F_first_unlike := FU_first_unlike) (L_first_unlike := FF_first_unlike) (F_first_above := FU_first_above) (L_first_above := FF_first_above) (F__law_pool := FU__law_pool) (M___eq__ := MU___eq__) (M___le__ := MU___le__) (C_Rising := CU_Rising) (hgd := trivial) (T_BadPart := T_BadPart) (T_BadIndex := T_BadIndex) (T_BadNumber := T_BadNumber) (EF__law_caught := EF__law_caught) (H__law_caught := H__law_caught) (LT := LT41) (z_max := z_max) (z_int := z_int) (z_range := z_range) (z_repr := z_repr) (nf_Rising := nf_Rising) (hC := hC)).imp fun vs H Q E h => law_imp (fun ns hn => math ns hn) h
end Mp
open PySem PySem.W PyProof.Rows
theorem PySem.Challenge.cw_risingday_k02_maps_asked_holds : PySem.Challenge.rw_risingday_k02_maps_asked.Holds := by
  w_on; o_law; k_head; (case hw => w_witness2)
  k_fill
  letI I2 : Mp.GdW := ⟨True⟩
  refine Mp.walkG (l := PySem.Challenge.rw_risingday_k02_maps_asked) (n := 63) (k := 9) (x := "_law_script") rfl (by rw [sizeLine_eq]; decide) rfl ⟨⟨rfl, by decide, by decide⟩, fun _ => rfl⟩ (fun w h Y => by first | exact PySem.W.kIn_of Y | exact PySem.W.km_in_of Y) ?F
  case F =>
    intro w mg mb fa h s0 Gr Y KX G hmg
    refine' Mp.all_mk KX G hmg (Mp.tab_at (x := "_law_asked_right") Gr KX ?r40 (Mp.tabIn_of ?a40 ?l40 rfl ?xc40 ?xp40)) (Mp.tab_at (x := "law") Gr KX ?r41 (Mp.tabIn_of ?a41 ?l41 rfl ?xc41 ?xp41)) ?aC_Rising ?pgC_Rising ?hdC_Rising ?poC_Rising ?saC_Rising ?mkC_Rising ?kcC_Rising ?haC_Rising ?hmC_Rising ?nrowsC_Rising ?oc_hn ?oc_ht ?aC_BadPart ?xC_BadPart ?saC_BadPart ?gaC_BadPart ?ggC_BadPart ?nbC_BadPart ?iC_BadPart ?tiC_BadPart ?lC_BadPart ?cC_BadPart ?kC_BadPart ?eC_BadPart ?tyC_BadPart ?hdC_BadPart ?icC_BadPart ?aC_BadNumber ?xC_BadNumber ?saC_BadNumber ?gaC_BadNumber ?ggC_BadNumber ?nbC_BadNumber ?iC_BadNumber ?tiC_BadNumber ?lC_BadNumber ?cC_BadNumber ?kC_BadNumber ?eC_BadNumber ?tyC_BadNumber ?hdC_BadNumber ?icC_BadNumber ?aC_BadIndex ?xC_BadIndex ?saC_BadIndex ?gaC_BadIndex ?ggC_BadIndex ?nbC_BadIndex ?iC_BadIndex ?tiC_BadIndex ?lC_BadIndex ?cC_BadIndex ?kC_BadIndex ?eC_BadIndex ?tyC_BadIndex ?hdC_BadIndex ?icC_BadIndex ?su_BadPart_BadPart ?su_BadPart_BadIndex ?su_BadPart_BadNumber ?su_BadIndex_BadPart ?su_BadIndex_BadIndex ?su_BadIndex_BadNumber ?su_BadNumber_BadPart ?su_BadNumber_BadIndex ?su_BadNumber_BadNumber ?nfn_Rising ?nfb_Rising ?nfi_Rising ?nfs_Rising ?nfl_Rising ?nft_Rising ?nfd_Rising ?nfe_Rising ?Z_isinstance ?Z_int ?Z_bool ?Z_list ?Z_tuple ?Z_len ?Z_enumerate ?Z_range ?Z_min ?Z_sorted ?Z_set ?Z_all ?Z_max ?Z_repr ?S_int_Rising ?S_bool_Rising ?S_list_Rising ?S_tuple_Rising ?iC_Rising ?tC_Rising ?a0 ?l0 ?c0 ?k0 ?a1 ?l1 ?c1 ?k1 ?a2 ?l2 ?c2 ?k2 ?a3 ?l3 ?c3 ?k3 ?a4 ?l4 ?c4 ?k4 ?a5 ?l5 ?c5 ?k5 ?a6 ?l6 ?c6 ?k6 ?a7 ?l7 ?c7 ?k7 ?a8 ?l8 ?c8 ?k8 ?a9 ?l9 ?c9 ?k9 ?a10 ?l10 ?c10 ?k10 ?a11 ?l11 ?c11 ?k11 ?a12 ?l12 ?c12 ?k12 ?a13 ?l13 ?c13 ?k13 ?a14 ?l14 ?c14 ?k14 ?a15 ?l15 ?c15 ?k15 ?a16 ?l16 ?c16 ?k16 ?a17 ?l17 ?c17 ?k17 ?a18 ?l18 ?c18 ?k18 ?a19 ?l19 ?c19 ?k19 ?a20 ?l20 ?c20 ?k20 ?a21 ?l21 ?c21 ?k21 ?a22 ?i22 ?l22 ?c22 ?k22 ?a23 ?i23 ?l23 ?c23 ?k23 ?a24 ?i24 ?l24 ?c24 ?k24 ?a25 ?i25 ?l25 ?c25 ?k25 ?a26 ?i26 ?l26 ?c26 ?k26 ?a27 ?l27 ?c27 ?k27 ?a28 ?l28 ?c28 ?k28 ?a29 ?l29 ?c29 ?k29 ?a30 ?l30 ?c30 ?k30 ?a31 ?l31 ?c31 ?k31 ?a32 ?l32 ?c32 ?k32 ?a33 ?l33 ?c33 ?k33 ?a34 ?l34 ?c34 ?k34 ?a35 ?l35 ?c35 ?k35 ?a36 ?l36 ?c36 ?k36 ?a37 ?l37 ?c37 ?k37 ?a38 ?l38 ?c38 ?k38 ?a39 ?l39 ?c39 ?k39 ?a40 ?l40 ?c40 ?k40 ?xc40 ?xp40 ?n40 ?a41 ?l41 ?c41 ?k41 ?xc41 ?xp41 ?n41 ?d40_41 ?aH0 ?lH0 ?cH0 ?kH0 ?fi_Rising Mp.math
    (case aC_Rising => k_is)
    (case pgC_Rising => k_is)
    (case hdC_Rising => k_is)
    (case poC_Rising => k_is)
    (case saC_Rising => k_is)
    (case mkC_Rising => k_is)
    (case kcC_Rising => k_is)
    (case haC_Rising => k_is)
    (case hmC_Rising => k_is)
    (case nrowsC_Rising => k_is)
    (case oc_hn => k_is)
    (case oc_ht => k_is)
    (case aC_BadPart => k_is)
    (case xC_BadPart => k_is)
    (case saC_BadPart => k_is)
    (case gaC_BadPart => k_is)
    (case ggC_BadPart => k_is)
    (case nbC_BadPart => k_is)
    (case iC_BadPart => k_is)
    (case tiC_BadPart => k_is)
    (case lC_BadPart => k_is)
    (case cC_BadPart => k_is)
    (case kC_BadPart => k_is)
    (case eC_BadPart => k_is)
    (case tyC_BadPart => k_is)
    (case hdC_BadPart => k_is)
    (case icC_BadPart => k_is)
    (case aC_BadNumber => k_is)
    (case xC_BadNumber => k_is)
    (case saC_BadNumber => k_is)
    (case gaC_BadNumber => k_is)
    (case ggC_BadNumber => k_is)
    (case nbC_BadNumber => k_is)
    (case iC_BadNumber => k_is)
    (case tiC_BadNumber => k_is)
    (case lC_BadNumber => k_is)
    (case cC_BadNumber => k_is)
    (case kC_BadNumber => k_is)
    (case eC_BadNumber => k_is)
    (case tyC_BadNumber => k_is)
    (case hdC_BadNumber => k_is)
    (case icC_BadNumber => k_is)
    (case aC_BadIndex => k_is)
    (case xC_BadIndex => k_is)
    (case saC_BadIndex => k_is)
    (case gaC_BadIndex => k_is)
    (case ggC_BadIndex => k_is)
    (case nbC_BadIndex => k_is)
    (case iC_BadIndex => k_is)
    (case tiC_BadIndex => k_is)
    (case lC_BadIndex => k_is)
    (case cC_BadIndex => k_is)
    (case kC_BadIndex => k_is)
    (case eC_BadIndex => k_is)
    (case tyC_BadIndex => k_is)
    (case hdC_BadIndex => k_is)
    (case icC_BadIndex => k_is)
    (case su_BadPart_BadPart => k_is)
    (case su_BadPart_BadIndex => k_is)
    (case su_BadPart_BadNumber => k_is)
    (case su_BadIndex_BadPart => k_is)
    (case su_BadIndex_BadIndex => k_is)
    (case su_BadIndex_BadNumber => k_is)
    (case su_BadNumber_BadPart => k_is)
    (case su_BadNumber_BadIndex => k_is)
    (case su_BadNumber_BadNumber => k_is)
    (case nfn_Rising => k_is)
    (case nfb_Rising => k_is)
    (case nfi_Rising => k_is)
    (case nfs_Rising => k_is)
    (case nfl_Rising => k_is)
    (case nft_Rising => k_is)
    (case nfd_Rising => k_is)
    (case nfe_Rising => k_is)
    (case Z_isinstance => k_is)
    (case Z_int => k_is)
    (case Z_bool => k_is)
    (case Z_list => k_is)
    (case Z_tuple => k_is)
    (case Z_len => k_is)
    (case Z_enumerate => k_is)
    (case Z_range => k_is)
    (case Z_min => k_is)
    (case Z_sorted => k_is)
    (case Z_set => k_is)
    (case Z_all => k_is)
    (case Z_max => k_is)
    (case Z_repr => k_is)
    (case S_int_Rising => k_is)
    (case S_bool_Rising => k_is)
    (case S_list_Rising => k_is)
    (case S_tuple_Rising => k_is)
    (case iC_Rising => k_is)
    (case tC_Rising => k_is)
    (case a0 => k_is)
    (case l0 => k_is)
    (case c0 => k_is)
    (case k0 => k_is)
    (case a1 => k_is)
    (case l1 => k_is)
    (case c1 => k_is)
    (case k1 => k_is)
    (case a2 => k_is)
    (case l2 => k_is)
    (case c2 => k_is)
    (case k2 => k_is)
    (case a3 => k_is)
    (case l3 => k_is)
    (case c3 => k_is)
    (case k3 => k_is)
    (case a4 => k_is)
    (case l4 => k_is)
    (case c4 => k_is)
    (case k4 => k_is)
    (case a5 => k_is)
    (case l5 => k_is)
    (case c5 => k_is)
    (case k5 => k_is)
    (case a6 => k_is)
    (case l6 => k_is)
    (case c6 => k_is)
    (case k6 => k_is)
    (case a7 => k_is)
    (case l7 => k_is)
    (case c7 => k_is)
    (case k7 => k_is)
    (case a8 => k_is)
    (case l8 => k_is)
    (case c8 => k_is)
    (case k8 => k_is)
    (case a9 => k_is)
    (case l9 => k_is)
    (case c9 => k_is)
    (case k9 => k_is)
    (case a10 => k_is)
    (case l10 => k_is)
    (case c10 => k_is)
    (case k10 => k_is)
    (case a11 => k_is)
    (case l11 => k_is)
    (case c11 => k_is)
    (case k11 => k_is)
    (case a12 => k_is)
    (case l12 => k_is)
    (case c12 => k_is)
    (case k12 => k_is)
    (case a13 => k_is)
    (case l13 => k_is)
    (case c13 => k_is)
    (case k13 => k_is)
    (case a14 => k_is)
    (case l14 => k_is)
    (case c14 => k_is)
    (case k14 => k_is)
    (case a15 => k_is)
    (case l15 => k_is)
    (case c15 => k_is)
    (case k15 => k_is)
    (case a16 => k_is)
    (case l16 => k_is)
    (case c16 => k_is)
    (case k16 => k_is)
    (case a17 => k_is)
    (case l17 => k_is)
    (case c17 => k_is)
    (case k17 => k_is)
    (case a18 => k_is)
    (case l18 => k_is)
    (case c18 => k_is)
    (case k18 => k_is)
    (case a19 => k_is)
    (case l19 => k_is)
    (case c19 => k_is)
    (case k19 => k_is)
    (case a20 => k_is)
    (case l20 => k_is)
    (case c20 => k_is)
    (case k20 => k_is)
    (case a21 => k_is)
    (case l21 => k_is)
    (case c21 => k_is)
    (case k21 => k_is)
    (case a22 => k_is)
    (case i22 => k_is)
    (case l22 => k_is)
    (case c22 => k_is)
    (case k22 => k_is)
    (case a23 => k_is)
    (case i23 => k_is)
    (case l23 => k_is)
    (case c23 => k_is)
    (case k23 => k_is)
    (case a24 => k_is)
    (case i24 => k_is)
    (case l24 => k_is)
    (case c24 => k_is)
    (case k24 => k_is)
    (case a25 => k_is)
    (case i25 => k_is)
    (case l25 => k_is)
    (case c25 => k_is)
    (case k25 => k_is)
    (case a26 => k_is)
    (case i26 => k_is)
    (case l26 => k_is)
    (case c26 => k_is)
    (case k26 => k_is)
    (case a27 => k_is)
    (case l27 => k_is)
    (case c27 => k_is)
    (case k27 => k_is)
    (case a28 => k_is)
    (case l28 => k_is)
    (case c28 => k_is)
    (case k28 => k_is)
    (case a29 => k_is)
    (case l29 => k_is)
    (case c29 => k_is)
    (case k29 => k_is)
    (case a30 => k_is)
    (case l30 => k_is)
    (case c30 => k_is)
    (case k30 => k_is)
    (case a31 => k_is)
    (case l31 => k_is)
    (case c31 => k_is)
    (case k31 => k_is)
    (case a32 => k_is)
    (case l32 => k_is)
    (case c32 => k_is)
    (case k32 => k_is)
    (case a33 => k_is)
    (case l33 => k_is)
    (case c33 => k_is)
    (case k33 => k_is)
    (case a34 => k_is)
    (case l34 => k_is)
    (case c34 => k_is)
    (case k34 => k_is)
    (case a35 => k_is)
    (case l35 => k_is)
    (case c35 => k_is)
    (case k35 => k_is)
    (case a36 => k_is)
    (case l36 => k_is)
    (case c36 => k_is)
    (case k36 => k_is)
    (case a37 => k_is)
    (case l37 => k_is)
    (case c37 => k_is)
    (case k37 => k_is)
    (case a38 => k_is)
    (case l38 => k_is)
    (case c38 => k_is)
    (case k38 => k_is)
    (case a39 => k_is)
    (case l39 => k_is)
    (case c39 => k_is)
    (case k39 => k_is)
    (case a40 => k_is)
    (case l40 => k_is)
    (case c40 => k_is)
    (case k40 => k_is)
    (case xc40 => k_is)
    (case xp40 => rfl)
    (case n40 => kernel_rfl)
    (case a41 => k_is)
    (case l41 => k_is)
    (case c41 => k_is)
    (case k41 => k_is)
    (case xc41 => k_is)
    (case xp41 => rfl)
    (case n41 => kernel_rfl)
    (case d40_41 => decide)
    (case aH0 => k_is)
    (case lH0 => k_is)
    (case cH0 => k_is)
    (case kH0 => k_is)
    (case fi_Rising => k_is)
    (case r40 => rfl)
    (case r41 => rfl)
