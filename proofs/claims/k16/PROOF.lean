import PyProof.Rows.All
import HandS.ForMost
import HandS.Wide
import HandS.Flow
import HandS.SortInts
import HandS.IsInst
import HandS.Deep
import HandS.Lambda
import HandS.ForExc
import HandS.TupAny
import HandS.CallSlots
import HandS.Words
import HandS.WordsExc
import HandS.Defaults
import Wide.All
import OpenK.AllK
import Wide.FinOn
import PyProof.ZipIter
import HandS.Zip0
import HandS.Zip
import HandS.Iter
import HandS.Walk
import HandS.TryOnly
import HandS.Style
import HandS.Conv
import HandS.TupLe
import PyProof.Rows.ListMul
import PyProof.Rows.SeqMore
import HandS.SlotsOwn
import HandS.Ends
import HandS.TryMany
import HandS.EndTab
import HandS.EndBits
import KE.KNest
import HandS.RaiseMore
import PyProof.ReprRoads
import HandS.Star
import HandS.SetFor
import HandS.Strs
import HandS.CallLocal
import KE.KCallOwn
import PyProof.InstNe
import HandS.OwnEq
import PyProof.FactsAll.object_2
import PyProof.FactsLen
import PyProof.InstSpecial
import HandS.ClsMeth
import PyProof.EqAt
import PyProof.EqKinds
import PyProof.TupleCall
import Open.SpecLaws
import KE.OsGo
import HandS.ForSpec
import PySem.Challenge.RW_risingday_k16_people_told_and_refused
set_option Elab.async false
set_option linter.all false
set_option maxRecDepth 100000
set_option maxHeartbeats 2000000
namespace Mp
open PySem L2
/-- a value as a tree: what is built once and not changed any more -/
inductive D where
  | non | bl (b : Bool) | int (i : Int) | str (s : Str)
  | lst (ds : List D) | tup (ds : List D)
  | obj (C : Str) (ns : List Str) (ds : List D)
  | raw (v : V)
  | dct | fn (x : Str)
abbrev AS := Addr → Prop
/-- where a class of the module stands -/
def clsAt (K : PySem.W.Frag) (x : Str) : Addr := match PySem.W.nsIn K mainGlobals x with
  | some (some (.ref a)) => a
  | _ => 0
theorem clsAt_of {K : PySem.W.Frag} {x : Str} {a : Addr} (h : PySem.W.nsIn K mainGlobals x = some (some (.ref a))) : clsAt K x = a := by unfold clsAt; rw [h]
/-- a list of the module's own top -/
def Wr (K : PySem.W.Frag) (a : Addr) (xs : List V) : Prop := ∃ (o : Obj) (its : Array Value) (n : Nat), K.lookup a = some o ∧ o.cls = .type "list" ∧ o.dict = none ∧ o.data = .seq its n ∧ its.size ≤ sizeLine ∧ Vals xs its.toList
def RdK (K : PySem.W.Frag) (H : Hp) (M : AS) (a : Addr) (xs : List V) : Prop := (¬ M a ∧ Rd H a (.lst xs)) ∨ Wr K a xs
mutual
/-- v shows d in H, by no address of M -/
def Rep (K : PySem.W.Frag) (H : Hp) (M : AS) : D → V → Prop
  | .non, v => v = .non
  | .bl b, v => v = .bl b
  | .int i, v => v = .int i
  | .str s, v => v = .str s
  | .raw w, v => v = w
  | .dct, v => ∃ a kvs, v = .ref a ∧ ¬ M a ∧ H a = some (.dK kvs)
  | .fn x, v => v = .ref (clsAt K x)
  | .lst ds, v => ∃ a xs, v = .ref a ∧ RdK K H M a xs ∧ RepL K H M ds xs
  | .tup ds, v => ∃ a xs, v = .ref a ∧ ¬ M a ∧ Rd H a (.tup xs) ∧ RepL K H M ds xs
  | .obj C ns ds, v => ∃ a dx xs, v = .ref a ∧ ¬ M a ∧ H a = some (.ins (clsAt K C) dx (ns.zip xs)) ∧ ns.length = xs.length ∧ RepL K H M ds xs
def RepL (K : PySem.W.Frag) (H : Hp) (M : AS) : List D → List V → Prop
  | [], xs => xs = []
  | d :: ds, xs => ∃ x ys, xs = x :: ys ∧ Rep K H M d x ∧ RepL K H M ds ys
end
/-- the tables of code objects of the program's defs, with the names of their lambdas -/
class TabsW where
  T : List (Addr × Str)
/-- no table of code objects -/
def NT (o : HO) : Prop := ∀ ps, o ≠ .tbl ps
/-- neither a table nor a code object -/
structure Pl (o : HO) : Prop where
  nt : NT o
  nx : ∀ c q, o ≠ LamX.CodeO c q
theorem nt_dK {xs : List (Key × V)} : NT (.dK xs) := fun _ z => by cases z
theorem nt_lst {xs : List V} : NT (.lst xs) := fun _ z => by cases z
theorem nt_tup {xs : List V} : NT (.tup xs) := fun _ z => by cases z
theorem nt_ins {C : Addr} {d : Addr} {xs : List (Str × V)} : NT (.ins C d xs) := fun _ z => by cases z
theorem pl_lst {xs : List V} : Pl (.lst xs) := ⟨nt_lst, fun _ _ z => by unfold LamX.CodeO at z; cases z⟩
theorem pl_ins {C : Addr} {d : Addr} {xs : List (Str × V)} : Pl (.ins C d xs) := ⟨nt_ins, fun _ _ z => by unfold LamX.CodeO at z; cases z⟩
/-- something stands there that is no table of code objects -/
def Lv (H : Hp) (a : Addr) : Prop := ∃ o, H a = some o ∧ NT o
theorem Lv.ne {H : Hp} {a : Addr} (h : Lv H a) : H a ≠ none := fun z => by obtain ⟨o, e, _⟩ := h; rw [e] at z; cases z
theorem nn_of {H : Hp} {a : Addr} (h : H a = none) : ¬ Lv H a := fun z => z.ne h
theorem Lv.lst {H : Hp} {a : Addr} {xs : List V} (h : H a = some (.lst xs)) : Lv H a := ⟨_, h, nt_lst⟩
theorem Lv.dK {H : Hp} {a : Addr} {xs : List (Key × V)} (h : H a = some (.dK xs)) : Lv H a := ⟨_, h, nt_dK⟩
theorem Lv.ins {H : Hp} {a C d : Addr} {xs : List (Str × V)} (h : H a = some (.ins C d xs)) : Lv H a := ⟨_, h, nt_ins⟩
variable [TabsW]
/-- outside M all stands as it stood; tables of code objects may grow -/
structure Stp (M : AS) (H H' : Hp) : Prop where
  st : ∀ a o, H a = some o → ¬ M a → NT o → H' a = some o
  mo : ∀ a, Lv H a → Lv H' a
  tb : ∀ P q, (P, q) ∈ TabsW.T → LamX.TabS H P q → LamX.TabS H' P q
theorem Stp.refl {M : AS} {H : Hp} : Stp M H H := ⟨fun _ _ h _ _ => h, fun _ h => h, fun _ _ _ h => h⟩
theorem Stp.trans {M : AS} {H H1 H2 : Hp} (a : Stp M H H1) (b : Stp M H1 H2) : Stp M H H2 := ⟨fun x o h n t => b.st x o (a.st x o h n t) n t, fun x h => b.mo x (a.mo x h), fun P q m h => b.tb P q m (a.tb P q m h)⟩
theorem Stp.weak {M M' : AS} {H H' : Hp} (a : Stp M H H') (h : ∀ x, M x → M' x) : Stp M' H H' := ⟨fun x o e n t => a.st x o e (fun q => n (h x q)) t, a.mo, a.tb⟩
theorem mo_upd {H : Hp} {p : Addr} {o : HO} (ho : NT o) : ∀ a, Lv H a → Lv (upd H p o) a := fun a h => by
  by_cases e : a = p
  · rw [e]; exact ⟨o, upd_same, ho⟩
  · obtain ⟨u, h1, h2⟩ := h; exact ⟨u, by rw [upd_ne e]; exact h1, h2⟩
theorem mo_new {H : Hp} {p : Addr} {o : HO} (hp : H p = none) : ∀ a, Lv H a → Lv (upd H p o) a := fun a h => by
  obtain ⟨u, h1, h2⟩ := h; exact ⟨u, by rw [upd_ne (ne_of_none h1 hp)]; exact h1, h2⟩
theorem tab_upd {H : Hp} {p : Addr} {o : HO} (hp : ∀ u, H p = some u → Pl u) : ∀ P q, LamX.TabS H P q → LamX.TabS (upd H p o) P q := by
  rintro P q ⟨ps, h1, h2, h3⟩
  have n1 : P ≠ p := fun z => by subst z; exact (hp _ h1).nt ps rfl
  refine ⟨ps, by rw [upd_ne n1]; exact h1, h2, fun pos cv hc => ?_⟩
  obtain ⟨c, e1, e2⟩ := h3 pos cv hc
  have n2 : c ≠ p := fun z => by subst z; exact (hp _ e2).nx _ _ rfl
  exact ⟨c, e1, by rw [upd_ne n2]; exact e2⟩
theorem Stp.new {M : AS} {H : Hp} {p : Addr} {o : HO} (h : H p = none) : Stp M H (upd H p o) := ⟨fun a u e _ _ => by
  rw [upd_ne (ne_of_none e h)]
  exact e, mo_new h, fun P q _ => tab_upd (fun u z => by rw [h] at z; cases z) P q⟩
theorem Stp.set {M : AS} {H : Hp} {p : Addr} {o : HO} (h : M p) (hp : ∀ u, H p = some u → Pl u) (ho : NT o := by first | exact nt_lst | exact nt_ins | exact nt_tup) : Stp M H (upd H p o) := ⟨fun a u e n _ => by
  rw [upd_ne (fun z => n (by rw [z]; exact h))]
  exact e, mo_upd ho, fun P q _ => tab_upd hp P q⟩
/-- a list stands there -/
theorem pl_at {H : Hp} {p : Addr} {xs : List V} (h : H p = some (.lst xs)) : ∀ u, H p = some u → Pl u := fun u z => by rw [h] at z; cases z; exact pl_lst
theorem pl_ati {H : Hp} {p : Addr} {C : Addr} {d : Addr} {xs : List (Str × V)} (h : H p = some (.ins C d xs)) : ∀ u, H p = some u → Pl u := fun u z => by rw [h] at z; cases z; exact pl_ins
theorem Rd.stp {M : AS} {H H' : Hp} {a : Addr} {u : HO} (e : Stp M H H') (n : ¬ M a) (nu : NT u) (h : Rd H a u) : Rd H' a u := by
  rcases h with h | ⟨o, h⟩
  · exact .inl (e.st _ _ h n nu)
  · exact .inr ⟨o, e.st _ _ h n (fun _ z => by cases z)⟩
theorem Rd.ne {H : Hp} {a : Addr} {u : HO} (h : Rd H a u) (nu : NT u) : Lv H a := by
  rcases h with h | ⟨o, h⟩
  · exact ⟨u, h, nu⟩
  · exact ⟨_, h, fun _ z => by cases z⟩
theorem Rd.l {K : PySem.W.Frag} {H : Hp} {a : Addr} {xs : List V} (h : Rd H a (.lst xs)) : SqL K H a xs := .inl h
theorem Rd.t {K : PySem.W.Frag} {H : Hp} {a : Addr} {xs : List V} (h : Rd H a (.tup xs)) : SqT K H a xs := .inl h
section
variable {K : PySem.W.Frag} {H H' : Hp} {M M' : AS}
theorem RdK.l {a : Addr} {xs : List V} (h : RdK K H M a xs) : SqL K H a xs := h.elim (fun q => .inl q.2) .inr
theorem RdK.ofS {a : Addr} {xs : List V} (n : ¬ M a) (h : SqL K H a xs) : RdK K H M a xs := h.elim (fun q => .inl ⟨n, q⟩) .inr
theorem RdK.stp {a : Addr} {xs : List V} (e : Stp M H H') (m : ∀ x, M' x → M x) (h : RdK K H M a xs) : RdK K H' M' a xs := h.elim (fun q => .inl ⟨fun z => q.1 (m a z), Rd.stp e q.1 nt_lst q.2⟩) .inr
theorem RdK.grow {a : Addr} {xs : List V} (m : ∀ x, M' x → M x ∨ ¬ Lv H x) (h : RdK K H M a xs) : RdK K H M' a xs := h.elim (fun q => .inl ⟨fun z => (m a z).elim q.1 fun w => w (Rd.ne q.2 nt_lst), q.2⟩) .inr
mutual
theorem Rep.stp (e : Stp M H H') (m : ∀ x, M' x → M x) : ∀ (d : D) (v : V), Rep K H M d v → Rep K H' M' d v
  | .non, v, h => by unfold Rep at h ⊢; exact h
  | .bl b, v, h => by unfold Rep at h ⊢; exact h
  | .int i, v, h => by unfold Rep at h ⊢; exact h
  | .str s, v, h => by unfold Rep at h ⊢; exact h
  | .raw w, v, h => by unfold Rep at h ⊢; exact h
  | .fn x, v, h => by unfold Rep at h ⊢; exact h
  | .dct, v, h => by
    unfold Rep at h ⊢
    obtain ⟨a, kvs, rfl, n, q⟩ := h
    exact ⟨a, kvs, rfl, fun z => n (m a z), e.st _ _ q n nt_dK⟩
  | .lst ds, v, h => by
    unfold Rep at h ⊢
    obtain ⟨a, xs, rfl, q, r⟩ := h
    exact ⟨a, xs, rfl, q.stp e m, RepL.stp e m ds xs r⟩
  | .tup ds, v, h => by
    unfold Rep at h ⊢
    obtain ⟨a, xs, rfl, n, q, r⟩ := h
    exact ⟨a, xs, rfl, fun z => n (m a z), Rd.stp e n nt_tup q, RepL.stp e m ds xs r⟩
  | .obj C ns ds, v, h => by
    unfold Rep at h ⊢
    obtain ⟨a, dx, xs, rfl, n, q, z, r⟩ := h
    exact ⟨a, dx, xs, rfl, fun z => n (m a z), e.st _ _ q n nt_ins, z, RepL.stp e m ds xs r⟩
theorem RepL.stp (e : Stp M H H') (m : ∀ x, M' x → M x) : ∀ (ds : List D) (xs : List V), RepL K H M ds xs → RepL K H' M' ds xs
  | [], xs, h => by unfold RepL at h ⊢; exact h
  | d :: ds, xs, h => by
    unfold RepL at h ⊢
    obtain ⟨x, ys, rfl, r, q⟩ := h
    exact ⟨x, ys, rfl, Rep.stp e m d x r, RepL.stp e m ds ys q⟩
end
mutual
/-- other addresses may be set apart, if nothing stood there -/
theorem Rep.grow (m : ∀ x, M' x → M x ∨ ¬ Lv H x) : ∀ (d : D) (v : V), Rep K H M d v → Rep K H M' d v
  | .non, v, h => by unfold Rep at h ⊢; exact h
  | .bl b, v, h => by unfold Rep at h ⊢; exact h
  | .int i, v, h => by unfold Rep at h ⊢; exact h
  | .str s, v, h => by unfold Rep at h ⊢; exact h
  | .raw w, v, h => by unfold Rep at h ⊢; exact h
  | .fn x, v, h => by unfold Rep at h ⊢; exact h
  | .dct, v, h => by
    unfold Rep at h ⊢
    obtain ⟨a, kvs, rfl, n, q⟩ := h
    exact ⟨a, kvs, rfl, fun z => (m a z).elim n fun w => w (Lv.dK q), q⟩
  | .lst ds, v, h => by
    unfold Rep at h ⊢
    obtain ⟨a, xs, rfl, q, r⟩ := h
    exact ⟨a, xs, rfl, q.grow m, RepL.grow m ds xs r⟩
  | .tup ds, v, h => by
    unfold Rep at h ⊢
    obtain ⟨a, xs, rfl, n, q, r⟩ := h
    exact ⟨a, xs, rfl, fun z => (m a z).elim n fun w => w (Rd.ne q nt_tup), q, RepL.grow m ds xs r⟩
  | .obj C ns ds, v, h => by
    unfold Rep at h ⊢
    obtain ⟨a, dx, xs, rfl, n, q, z, r⟩ := h
    exact ⟨a, dx, xs, rfl, fun z => (m a z).elim n fun w => w (Lv.ins q), q, z, RepL.grow m ds xs r⟩
theorem RepL.grow (m : ∀ x, M' x → M x ∨ ¬ Lv H x) : ∀ (ds : List D) (xs : List V), RepL K H M ds xs → RepL K H M' ds xs
  | [], xs, h => by unfold RepL at h ⊢; exact h
  | d :: ds, xs, h => by
    unfold RepL at h ⊢
    obtain ⟨x, ys, rfl, r, q⟩ := h
    exact ⟨x, ys, rfl, Rep.grow m d x r, RepL.grow m ds ys q⟩
end
theorem RepL.length : ∀ {ds : List D} {xs : List V}, RepL K H M ds xs → ds.length = xs.length
  | [], xs, h => by unfold RepL at h; subst h; rfl
  | d :: ds, xs, h => by
    unfold RepL at h
    obtain ⟨x, ys, rfl, r, q⟩ := h
    simp [RepL.length q]
theorem RepL.nil : RepL K H M [] [] := by unfold RepL; rfl
theorem RepL.cons {d : D} {ds : List D} {x : V} {xs : List V} (h : Rep K H M d x) (r : RepL K H M ds xs) : RepL K H M (d :: ds) (x :: xs) := by unfold RepL; exact ⟨x, xs, rfl, h, r⟩
theorem RepL.append : ∀ {ds es : List D} {xs ys : List V}, RepL K H M ds xs → RepL K H M es ys → RepL K H M (ds ++ es) (xs ++ ys)
  | [], es, xs, ys, h, r => by unfold RepL at h; subst h; exact r
  | d :: ds, es, xs, ys, h, r => by
    unfold RepL at h
    obtain ⟨x, zs, rfl, q, h⟩ := h
    exact RepL.cons q (RepL.append h r)
theorem RepL.get : ∀ {ds : List D} {xs : List V} {i : Nat} {d : D}, RepL K H M ds xs → ds[i]? = some d → ∃ x, xs[i]? = some x ∧ Rep K H M d x
  | [], xs, i, d, h, e => by simp at e
  | d :: ds, xs, 0, d', h, e => by
    unfold RepL at h
    obtain ⟨x, zs, rfl, q, h⟩ := h
    simp at e; subst e
    exact ⟨x, rfl, q⟩
  | d :: ds, xs, i + 1, d', h, e => by
    unfold RepL at h
    obtain ⟨x, zs, rfl, q, h⟩ := h
    obtain ⟨y, a, b⟩ := RepL.get (i := i) h (by simpa using e)
    exact ⟨y, by simpa using a, b⟩
theorem RepL.get' : ∀ {ds : List D} {xs : List V} {i : Nat} {x : V}, RepL K H M ds xs → xs[i]? = some x → ∃ d, ds[i]? = some d ∧ Rep K H M d x := fun {ds xs i x} h e => by
  have hl := h.length
  obtain ⟨hi, _⟩ := List.getElem?_eq_some_iff.mp e
  have : i < ds.length := by omega
  obtain ⟨y, a, b⟩ := h.get (List.getElem?_eq_getElem this)
  rw [e] at a; cases a
  exact ⟨_, List.getElem?_eq_getElem this, b⟩
theorem RepL.set : ∀ {ds : List D} {xs : List V} {i : Nat} {d : D} {x : V}, RepL K H M ds xs → Rep K H M d x → RepL K H M (ds.set i d) (xs.set i x)
  | [], xs, i, d, x, h, r => by unfold RepL at h; subst h; exact RepL.nil
  | e :: ds, xs, 0, d, x, h, r => by
    unfold RepL at h
    obtain ⟨y, zs, rfl, q, h⟩ := h
    exact RepL.cons r h
  | e :: ds, xs, i + 1, d, x, h, r => by
    unfold RepL at h
    obtain ⟨y, zs, rfl, q, h⟩ := h
    exact RepL.cons q (RepL.set h r)
theorem RepL.take : ∀ {ds : List D} {xs : List V} (n : Nat), RepL K H M ds xs → RepL K H M (ds.take n) (xs.take n)
  | _, _, 0, h => RepL.nil
  | [], xs, n + 1, h => by unfold RepL at h; subst h; exact RepL.nil
  | d :: ds, xs, n + 1, h => by
    unfold RepL at h
    obtain ⟨y, zs, rfl, q, h⟩ := h
    exact RepL.cons q (RepL.take n h)
theorem RepL.drop : ∀ {ds : List D} {xs : List V} (n : Nat), RepL K H M ds xs → RepL K H M (ds.drop n) (xs.drop n)
  | _, _, 0, h => h
  | [], xs, n + 1, h => by unfold RepL at h; subst h; exact RepL.nil
  | d :: ds, xs, n + 1, h => by
    unfold RepL at h
    obtain ⟨y, zs, rfl, q, h⟩ := h
    exact RepL.drop n h
theorem RepL.of_ints : ∀ (ns : List Int), RepL K H M (ns.map D.int) (ns.map V.int)
  | [] => RepL.nil
  | n :: ns => RepL.cons (by unfold Rep; rfl) (RepL.of_ints ns)
theorem RepL.bools : ∀ {ns : List Bool} {xs : List V}, RepL K H M (ns.map D.bl) xs → xs = ns.map V.bl
  | [], xs, h => by unfold RepL at h; exact h
  | n :: ns, xs, h => by
    rw [List.map_cons] at h
    unfold RepL at h
    obtain ⟨y, zs, rfl, q, h⟩ := h
    unfold Rep at q
    rw [q, RepL.bools h]; rfl
end
def truD : D → Option Bool
  | .non => some false
  | .bl b => some b
  | .int i => some (i != 0)
  | .str s => if s.length ≤ 1000000 then some ((s.length : Int) != 0) else none
  | .lst ds => some (!ds.isEmpty)
  | .tup ds => some (!ds.isEmpty)
  | _ => none
mutual
def toPy : D → Option PyData
  | .non => some .none
  | .bl b => some (.bool b)
  | .int i => some (.int i)
  | .str s => some (.str s)
  | .lst ds => (toPys ds).map PyData.list
  | .tup ds => (toPys ds).map PyData.tuple
  | _ => none
def toPys : List D → Option (List PyData)
  | [] => some []
  | d :: ds => match toPy d, toPys ds with
    | some x, some xs => some (x :: xs)
    | _, _ => none
end
theorem truV_of {K : PySem.W.Frag} {H : Hp} {M : AS} {d : D} {v : V} {b : Bool} (r : Rep K H M d v) (t : truD d = some b) : TruV K v H b := by
  have hs : sizeLine = 16777216 := sizeLine_eq
  cases d with
  | non => unfold Rep at r; subst r; cases t; rfl
  | bl c => unfold Rep at r; subst r; cases t; rfl
  | int i => unfold Rep at r; subst r; cases t; rfl
  | str s =>
    unfold Rep at r; subst r
    have t' : (if s.length ≤ 1000000 then some ((s.length : Int) != 0) else none) = some b := t
    by_cases hl : s.length ≤ 1000000
    · rw [if_pos hl] at t'
      cases t'
      exact ⟨by omega, rfl⟩
    · rw [if_neg hl] at t'
      cases t'
  | lst ds =>
    unfold Rep at r
    obtain ⟨a, xs, rfl, q, z⟩ := r
    cases t
    refine .inl ⟨xs, q.l, ?_⟩
    have := z.length
    cases ds <;> cases xs <;> simp_all
  | tup ds =>
    unfold Rep at r
    obtain ⟨a, xs, rfl, _, q, z⟩ := r
    cases t
    refine .inr (.inl ⟨xs, Rd.t q, ?_⟩)
    have := z.length
    cases ds <;> cases xs <;> simp_all
  | obj C ns ds => cases t
  | raw w => cases t
  | dct => cases t
  | fn x => cases t
section
variable {K : PySem.W.Frag} {H : Hp} {M : AS}
mutual
theorem dp_of : ∀ (d : D) (v : V) (p : PyData), Rep K H M d v → toPy d = some p → Dp K H v p
  | .non, v, p, r, t => by unfold Rep at r; unfold toPy at t; subst r; cases t; exact .non
  | .bl b, v, p, r, t => by unfold Rep at r; unfold toPy at t; subst r; cases t; exact .bl b
  | .int i, v, p, r, t => by unfold Rep at r; unfold toPy at t; subst r; cases t; exact .int i
  | .str s, v, p, r, t => by unfold Rep at r; unfold toPy at t; subst r; cases t; exact .str s
  | .lst ds, v, p, r, t => by
    unfold Rep at r; unfold toPy at t
    obtain ⟨a, xs, rfl, q, z⟩ := r
    cases e : toPys ds with
    | none => rw [e] at t; cases t
    | some ps =>
      rw [e] at t; cases t
      exact .lst q.l (dps_of ds xs ps z e)
  | .tup ds, v, p, r, t => by
    unfold Rep at r; unfold toPy at t
    obtain ⟨a, xs, rfl, _, q, z⟩ := r
    cases e : toPys ds with
    | none => rw [e] at t; cases t
    | some ps =>
      rw [e] at t; cases t
      exact .tup (Rd.t q) (dps_of ds xs ps z e)
  | .obj C ns ds, v, p, r, t => by unfold toPy at t; cases t
  | .raw w, v, p, r, t => by unfold toPy at t; cases t
  | .dct, v, p, r, t => by unfold toPy at t; cases t
  | .fn x, v, p, r, t => by unfold toPy at t; cases t
theorem dps_of : ∀ (ds : List D) (xs : List V) (ps : List PyData), RepL K H M ds xs → toPys ds = some ps → DpAll K H xs ps
  | [], xs, ps, r, t => by unfold RepL at r; unfold toPys at t; subst r; cases t; exact .nil
  | d :: ds, xs, ps, r, t => by
    unfold RepL at r; unfold toPys at t
    obtain ⟨x, ys, rfl, r, q⟩ := r
    cases e : toPy d with
    | none => rw [e] at t; cases t
    | some p =>
      cases e2 : toPys ds with
      | none => rw [e, e2] at t; cases t
      | some ps' =>
        rw [e, e2] at t; cases t
        exact .cons (dp_of d x p r e) (dps_of ds ys ps' q e2)
end
end
end Mp
set_option maxHeartbeats 2000000
namespace Mp
open PySem L2
inductive Cell where
  | dat (d : D) | own (ds : List D) | io (ds : List D) | slf (C : Str) (ns : List Str) (ds : List D)
abbrev Env := List (Option Cell)
inductive Opd where
  | val (d : D) | pl (i : Nat)
inductive R (α : Type) where
  | ok (a : α) (env : Env) | exc (C : Str) (f : Str) (d : D) (env : Env) | bad
def R.bind {α β : Type} : R α → (α → Env → R β) → R β
  | .ok a env, k => k a env
  | .exc C f d env, _ => .exc C f d env
  | .bad, _ => .bad
inductive FR where
  | ok (d : D) (out : List D) | exc (C : Str) (f : Str) (d : D) (out : List D) | bad
structure Fn where
  n : Nat
  io : Option Nat
  sem : List D → FR
inductive BOp where
  | add | sub | mul | fdiv | mod | pow
inductive COp where
  | eq | ne | lt | le | gt | ge | is_ | isnot | in_ | notin
inductive Ty where
  | int | bool | str | list | tuple | dict | cls (C : Str)
inductive Blt where
  | len | int | max2 | min2 | sorted | list | tuple | all | any | abs | range1 | range2 | maxl | minl | sum | bool | repr | sset
/-- a clause that tells an error: its class, its field, the word put ahead, whether the repr is told -/
structure HC where
  C : Str
  f : Str
  lab : Str
  rep : Bool
inductive Tgt where
  | name (i : Nat) | tup (is : List Nat)
mutual
inductive IR where
  | c (d : D)
  | v (i : Nat)
  | bin (op : BOp) (a b : IR)
  | cmp (op : COp) (a b : IR)
  | chn (op1 op2 : COp) (a b c : IR)
  | and_ (a b : IR)
  | or_ (a b : IR)
  | not_ (a : IR)
  | neg (a : IR)
  | ite (t a b : IR)
  | tup (es : List IR)
  | lst (es : List IR)
  | ix (a b : IR)
  | sl (a : IR) (lo hi : Option IR)
  | rev (a : IR)
  | dnv (i : Nat)
  | olen (j : Nat) (a : IR)
  | call (j : Nat) (es : List IR)
  | meth (j : Nat) (o : IR) (es : List IR)
  | make (j : Nat) (es : List IR)
  | blt (b : Blt) (es : List IR)
  | isin (a : IR) (ts : List Ty)
  | fld (o : IR) (f : Str)
  | app (i : Nat) (e : IR)
  | pop (i : Nat) (e : IR)
  | lc (tg : Tgt) (it : IT) (t : Option IR) (e : IR) (own : List Nat)
  | lcf (tg : Tgt) (i : Nat) (t : Option IR) (e : IR) (own : List Nat)
  | lrng (e : IR)
  | ocmp (j : Nat) (a b : IR)
  | heard (cs : List HC) (e : IR)
  | sq (e : IR)
  | lstS (fs : List Bool) (es : List IR)
  | dnew
  | callv (i : Nat) (alts : List (Str × Nat)) (es : List IR)
  | lc2 (tg : Tgt) (it : IT) (tg1 : Tgt) (it1 : IT) (t : Option IR) (e : IR) (own own1 : List Nat)
  | lrng2 (a b : IR)
  | ext (i : Nat) (e : IR)
  | obin (j : Nat) (a b : IR)
  | oeq (neg : Bool) (j : Nat) (a b : IR)
  | thn (i : Nat) (b m : IR)
  | callk (j : Nat) (es ks : List IR)
  | idx (i : Nat) (e : IR)
  | makeL (j : Nat) (es : List IR)
  | heardN (w : Str) (cs : List HC) (e : IR)
inductive IT where
  | seq (e : IR)
  | rng1 (e : IR)
  | rng2 (a b : IR)
  | rng3 (a b c : IR)
  | txt (e : IR)
  | zip (a b : IR)
  | enum (a : IR)
end
def BIG : Nat := 100000
def addD : D → D → Option D
  | .int i, .int j => some (.int (i + j))
  | .str a, .str b => if a.length + b.length ≤ BIG then some (.str (a ++ b)) else none
  | .lst a, .lst b => if a.length + b.length ≤ BIG then some (.lst (a ++ b)) else none
  | _, _ => none
def subD : D → D → Option D
  | .int i, .int j => some (.int (i - j))
  | _, _ => none
def mulD : D → D → Option D
  | .int i, .int j => if (-18446744073709551616 < i ∧ i < 18446744073709551616) ∨ (-18446744073709551616 < j ∧ j < 18446744073709551616) then some (.int (i * j)) else none
  | .lst ds, .int j => if 0 ≤ j ∧ j ≤ 100 ∧ ds.length ≤ 100 then some (.lst (List.replicate j.toNat ds).flatten) else none
  | _, _ => none
def fdivD : D → D → Option D
  | .int i, .int j => if 0 < j ∧ j < 1073741824 then some (.int (i / j)) else none
  | _, _ => none
def modD : D → D → Option D
  | .int i, .int j => if 0 < j then some (.int (i % j)) else none
  | _, _ => none
def powD : D → D → Option D
  | .int i, .int j => if 0 ≤ j ∧ j ≤ 1000000 ∧ i.natAbs < 18446744073709551616 then some (.int (i ^ j.toNat)) else none
  | _, _ => none
def binD : BOp → D → D → Option D
  | .add => addD | .sub => subD | .mul => mulD | .fdiv => fdivD | .mod => modD | .pow => powD
mutual
/-- == of data, None where it is not of data (or too deep: n levels) -/
def eqD : D → D → Bool
  | .non, .non => true
  | .bl a, .bl b => a == b
  | .bl a, .int j => (if a then 1 else 0) == j
  | .int i, .bl b => i == (if b then 1 else 0)
  | .int i, .int j => i == j
  | .str x, .str y => x == y
  | .lst xs, .lst ys => eqDs xs ys
  | .tup xs, .tup ys => eqDs xs ys
  | _, _ => false
def eqDs : List D → List D → Bool
  | [], [] => true
  | x :: xs, y :: ys => eqD x y && eqDs xs ys
  | _, _ => false
end
mutual
/-- data, at most n deep -/
def dataD : Nat → D → Bool
  | _, .non => true
  | _, .bl _ => true
  | _, .int _ => true
  | _, .str s => s.cps.all (· < 0x110000)
  | 0, _ => false
  | n + 1, .lst ds => dataDs n ds
  | n + 1, .tup ds => dataDs n ds
  | _, _ => false
def dataDs : Nat → List D → Bool
  | _, [] => true
  | n, d :: ds => dataD n d && dataDs n ds
end
def isNon : D → Bool
  | .non => true
  | _ => false
def cmpD : COp → D → D → Option Bool
  | .eq, x, y => if dataD 20 x && dataD 20 y then some (eqD x y) else none
  | .ne, x, y => if dataD 20 x && dataD 20 y then some (!eqD x y) else none
  | .lt, .int i, .int j => some (decide (i < j))
  | .le, .int i, .int j => some (decide (i ≤ j))
  | .gt, .int i, .int j => some (decide (j < i))
  | .ge, .int i, .int j => some (decide (j ≤ i))
  | .is_, .raw _, _ => none
  | .isnot, .raw _, _ => none
  | .is_, x, .non => some (isNon x)
  | .isnot, x, .non => some (!isNon x)
  | .is_, .bl a, .bl b => some (decide (a = b))
  | .isnot, .bl a, .bl b => some (!decide (a = b))
  | .in_, .str i, .str j => some (!(PySem.Builtin.Str.occurrences j i 0 j.length 1).isEmpty)
  | .notin, .str i, .str j => some (!(!(PySem.Builtin.Str.occurrences j i 0 j.length 1).isEmpty))
  | .in_, x, .lst ys => if dataD 19 x && dataDs 19 ys then some (ys.any fun y => eqD y x) else none
  | .in_, x, .tup ys => if dataD 19 x && dataDs 19 ys then some (ys.any fun y => eqD y x) else none
  | .notin, x, .lst ys => if dataD 19 x && dataDs 19 ys then some (!ys.any fun y => eqD y x) else none
  | .notin, x, .tup ys => if dataD 19 x && dataDs 19 ys then some (!ys.any fun y => eqD y x) else none
  | _, _, _ => none
def ixD : D → D → Option D
  | .lst ds, .int i => atI ds i
  | .tup ds, .int i => atI ds i
  | _, _ => none
def cutD (ds : List D) (lo hi : Option Int) : List D := (ds.drop (HT.sIx ds.length 0 lo)).take (HT.sIx ds.length ds.length hi - HT.sIx ds.length 0 lo)
def slD : D → Option Int → Option Int → Option D
  | .lst ds, lo, hi => some (.lst (cutD ds lo hi))
  | .tup ds, lo, hi => some (.tup (cutD ds lo hi))
  | _, _, _ => none
def sortI (ns : List Int) : List Int := ns.mergeSort
def intsD : List D → Option (List Int)
  | [] => some []
  | .int i :: ds => (intsD ds).map (i :: ·)
  | _ :: _ => none
def boolsD : List D → Option (List Bool)
  | [] => some []
  | .bl i :: ds => (boolsD ds).map (i :: ·)
  | _ :: _ => none
def insI (x : Int) : List Int → List Int
  | [] => [x]
  | y :: ys => if x < y then x :: y :: ys else if x = y then y :: ys else y :: insI x ys
/-- the members, rising -/
def ssetI (ns : List Int) : List Int := ns.foldr insI []
def iotaD (lo : Int) : Nat → List D
  | 0 => []
  | n + 1 => .int lo :: iotaD (lo + 1) n
/-- lo, lo + c, .. -/
def stepD (lo c : Int) : Nat → List D
  | 0 => []
  | n + 1 => .int lo :: stepD (lo + c) c n
/-- a text, sign by sign -/
def signsD (s : Str) : List D := s.cps.toList.map fun c => D.str ⟨#[c]⟩
/-- data whose repr is told -/
def showB (p : PyData) : Bool := p.showable && !p.hasDict && (match p with | .int i => decide (i.natAbs.log2 < 1920) | _ => true) && decide (p.shown.length ≤ BIG) && decide (p.depth ≤ 60)
def reprD (d : D) : Option D := match toPy d with
  | some p => if showB p then some (.str p.shown) else none
  | none => none
/-- what the first clause of the error's class tells -/
def hear : List HC → Str → Str → D → Option D
  | [], _, _, _ => none
  | c :: cs, C, f, d => if C = c.C then (if f = c.f then (if c.rep then (reprD d).map fun r => .lst [.str c.lab, r] else some (.lst [.str c.lab, d])) else none) else hear cs C f d
def bltD : Blt → List D → Option D
  | .repr, [d] => reprD d
  | .len, [.lst ds] => some (.int ds.length)
  | .len, [.tup ds] => some (.int ds.length)
  | .len, [.str s] => if s.length ≤ 1000000 then some (.int s.length) else none
  | .int, [.int i] => some (.int i)
  | .int, [.bl b] => some (.int (if b then 1 else 0))
  | .bool, [.int i] => some (.bl (i != 0))
  | .bool, [.bl b] => some (.bl b)
  | .abs, [.int i] => some (.int (if i < 0 then -i else i))
  | .max2, [.int i, .int j] => some (.int (if j > i then j else i))
  | .min2, [.int i, .int j] => some (.int (if j < i then j else i))
  | .sorted, [.lst ds] => (intsD ds).map fun ns => .lst ((sortI ns).map .int)
  | .list, [.lst ds] => some (.lst ds)
  | .list, [.tup ds] => some (.lst ds)
  | .tuple, [.lst ds] => some (.tup ds)
  | .tuple, [.tup ds] => some (.tup ds)
  | .all, [.lst ds] => (boolsD ds).map fun bs => .bl (bs.all id)
  | .any, [.lst ds] => (boolsD ds).map fun bs => .bl (bs.any id)
  | .sset, [.lst ds] => (intsD ds).bind fun ns => if ns.length < 64 then some (.lst ((ssetI ns).map .int)) else none
  | .sum, [.lst ds] => (intsD ds).map fun ns => .int ns.sum
  | .maxl, [.lst ds] => (intsD ds).bind fun ns => match ns with
    | [] => none
    | n :: ns => some (.int (ns.foldl max n))
  | .minl, [.lst ds] => (intsD ds).bind fun ns => match ns with
    | [] => none
    | n :: ns => some (.int (ns.foldl min n))
  | _, _ => none
def tyD : Ty → D → Bool
  | .int, .int _ => true
  | .int, .bl _ => true
  | .bool, .bl _ => true
  | .str, .str _ => true
  | .list, .lst _ => true
  | .tuple, .tup _ => true
  | .cls C, .obj C' _ _ => decide (C = C')
  | .dict, .dct => true
  | _, _ => false
/-- a value whose class is known -/
def knownB (cs : List Str) : D → Bool
  | .obj C _ _ => cs.contains C
  | .raw _ => false
  | .fn _ => false
  | _ => true
def content : Cell → D
  | .dat d => d
  | .own ds => .lst ds
  | .io ds => .lst ds
  | .slf C ns ds => .obj C ns ds
def cellAt (env : Env) (i : Nat) : Option Cell := (env[i]?).join
/-- what an operand is worth now -/
def rdO (env : Env) : Opd → Option D
  | .val d => some d
  | .pl i => (cellAt env i).map content
/-- an operand is kept by something else: a list of one's own is not changed any more -/
def takeO (env : Env) : Opd → Option (D × Env)
  | .val d => some (d, env)
  | .pl i => match cellAt env i with
    | some (.own ds) => some (.lst ds, env.set i (some (.dat (.lst ds))))
    | some (.dat d) => some (d, env)
    | _ => none
/-- a slot that may be given another value -/
def freeB (env : Env) (i : Nat) : Bool := match env[i]? with
  | some (some (.io _)) => false
  | some (some (.slf _ _ _)) => false
  | some _ => true
  | none => false
def bindT (tg : Tgt) (d : D) (env : Env) : Option Env := match tg with
  | .name i => if freeB env i then some (env.set i (some (.dat d))) else none
  | .tup is => match d with
    | .tup ds => if ds.length = is.length ∧ is.all (freeB env) = true then some ((is.zip ds).foldl (fun e p => e.set p.1 (some (.dat p.2))) env) else none
    | .lst ds => if ds.length = is.length ∧ is.all (freeB env) = true then some ((is.zip ds).foldl (fun e p => e.set p.1 (some (.dat p.2))) env) else none
    | _ => none
/-- the target's slots -/
def tgOwn : Tgt → List Nat
  | .name i => [i]
  | .tup is => is
/-- slots that hold a list of one's own can't be hidden by a comprehension -/
def hideB (env : Env) (i : Nat) : Bool := match env[i]? with
  | some none => true
  | some (some (.dat _)) => true
  | _ => false
def ownB (env : Env) (i : Nat) : Bool := match env[i]? with
  | some (some (.own _)) => true
  | _ => false
def lstB (env : Env) (i : Nat) : Bool := match env[i]? with
  | some (some (.dat (.lst _))) => true
  | _ => false
def wipeE (env : Env) : List Nat → Env
  | [] => env
  | i :: is => (wipeE env is).set i none
/-- behind a comprehension: its slots as they were -/
def backE (old : Env) (env : Env) : List Nat → Env
  | [] => env
  | i :: is => (backE old env is).set i ((old[i]?).join)
def R.take (r : R Opd) : R D := r.bind fun o env => match takeO env o with
  | some (d, env') => .ok d env'
  | none => .bad
def R.rd (r : R Opd) : R D := r.bind fun o env => match rdO env o with
  | some d => .ok d env
  | none => .bad
def lift (env : Env) : Option D → R Opd
  | some d => .ok (.val d) env
  | none => .bad
/-- the items of a list display with stars: a starred one gives its own items -/
def starD : List Bool → List D → Option (List D)
  | [], [] => some []
  | false :: fs, d :: ds => (starD fs ds).map (d :: ·)
  | true :: fs, .lst xs :: ds => (starD fs ds).map (xs ++ ·)
  | true :: fs, .tup xs :: ds => (starD fs ds).map (xs ++ ·)
  | _, _ => none
structure Mt where
  C : Str
  name : Str
  n : Nat
  sem : List D → FR
structure Mkr where
  C : Str
  n : Nat
  ns : List Str
  sem : List D → FR
structure Ctx where
  fns : List Fn
  mts : List Mt
  mks : List Mkr
  cls : List Str
  frs : List Fn
/-- a comprehension's turns -/
def lcLoop (own : List Nat) (tg : Tgt) (t : Option (Env → R Bool)) (e : Env → R D) : List D → Env → R (List D)
  | [], env => .ok [] env
  | d :: ds, env => match bindT tg d (wipeE env own) with
    | none => .bad
    | some env1 => (match t with
        | none => R.ok true env1
        | some t => t env1).bind fun b env2 => if b then (e env2).bind fun x env3 => (lcLoop own tg t e ds env3).bind fun xs env4 => .ok (x :: xs) env4 else lcLoop own tg t e ds env2
/-- the turns of a comprehension of two fors -/
def lc2Loop (own : List Nat) (tg : Tgt) (src : Env → R (List D)) (own1 : List Nat) (tg1 : Tgt) (t : Option (Env → R Bool)) (e : Env → R D) : List D → Env → R (List D)
  | [], env => .ok [] env
  | d :: ds, env => match bindT tg d (wipeE env own) with
    | none => .bad
    | some env1 => (src env1).bind fun ds1 env2 => if ds1.length ≤ 1000 then (lcLoop own1 tg1 t e ds1 env2).bind fun xs env3 => (lc2Loop own tg src own1 tg1 t e ds env3).bind fun ys env4 => .ok (xs ++ ys) env4 else .bad
mutual
/-- no list in it -/
def nolD : D → Bool
  | .lst _ => false
  | .tup ds => nolDs ds
  | .obj _ _ ds => nolDs ds
  | .raw _ => false
  | .fn _ => false
  | .dct => false
  | _ => true
def nolDs : List D → Bool
  | [] => true
  | d :: ds => nolD d && nolDs ds
end
/-- the first place of i -/
def firstI (i : Int) : List Int → Option Nat
  | [] => none
  | j :: js => if j = i then some 0 else (firstI i js).map (· + 1)
/-- what a lambda sees: data alone -/
def datE (env : Env) : Env := env.map fun c => match c with
  | some (.dat d) => some (.dat d)
  | _ => none
def truR (r : R Opd) : R Bool := r.bind fun o env => match (rdO env o).bind truD with
  | some b => .ok b env
  | none => .bad
def zipD : List D → List D → List D
  | x :: xs, y :: ys => .tup [x, y] :: zipD xs ys
  | _, _ => []
def enumD (k : Int) : List D → List D
  | [] => []
  | x :: xs => .tup [.int k, x] :: enumD (k + 1) xs
def seqD : D → Option (List D)
  | .lst ds => some ds
  | .tup ds => some ds
  | _ => none
def lstD : D → Option (List D)
  | .lst ds => some ds
  | _ => none
def noExc {α : Type} : R α → R α
  | .exc _ _ _ _ => .bad
  | r => r
def frR (env : Env) (io : Option Nat) (ops : List Nat) : FR → R Opd
  | .ok d out => match io with
    | none => .ok (.val d) env
    | some _ => match ops with
      | [i] => (match cellAt env i with
        | some (.own _) => .ok (.val d) (env.set i (some (.own out)))
        | some (.io _) => .ok (.val d) (env.set i (some (.io out)))
        | _ => .bad)
      | _ => .bad
  | .exc C f d out => match io with
    | none => .exc C f d env
    | some _ => match ops with
      | [i] => (match cellAt env i with
        | some (.own _) => .exc C f d (env.set i (some (.own out)))
        | some (.io _) => .exc C f d (env.set i (some (.io out)))
        | _ => .bad)
      | _ => .bad
  | .bad => .bad
mutual
def ev (G : Ctx) : IR → Env → R Opd
  | .c d, env => .ok (.val d) env
  | .v i, env => match cellAt env i with
    | some (.dat d) => .ok (.val d) env
    | some (.own _) => .ok (.pl i) env
    | some (.io _) => .ok (.pl i) env
    | _ => .bad
  | .bin op a b, env => (ev G a env).bind fun x e1 => (ev G b e1).bind fun y e2 => match rdO e2 x, rdO e2 y with
    | some p, some q => lift e2 (binD op p q)
    | _, _ => .bad
  | .cmp op a b, env => (ev G a env).bind fun x e1 => (ev G b e1).bind fun y e2 => match rdO e2 x, rdO e2 y with
    | some p, some q => lift e2 ((cmpD op p q).map .bl)
    | _, _ => .bad
  | .chn op1 op2 a b c, env => (ev G a env).bind fun x e1 => (ev G b e1).bind fun y e2 => match rdO e2 x, rdO e2 y with
    | some p, some q => (match cmpD op1 p q with
      | some true => (ev G c e2).bind fun z e3 => (match rdO e3 y, rdO e3 z with
        | some p, some q => lift e3 ((cmpD op2 p q).map .bl)
        | _, _ => .bad)
      | some false => .ok (.val (.bl false)) e2
      | none => .bad)
    | _, _ => .bad
  | .and_ a b, env => (ev G a env).bind fun x e1 => match (rdO e1 x).bind truD with
    | some true => ev G b e1
    | some false => .ok x e1
    | none => .bad
  | .or_ a b, env => (ev G a env).bind fun x e1 => match (rdO e1 x).bind truD with
    | some true => .ok x e1
    | some false => ev G b e1
    | none => .bad
  | .not_ a, env => (ev G a env).bind fun x e1 => match (rdO e1 x).bind truD with
    | some b => .ok (.val (.bl (!b))) e1
    | none => .bad
  | .neg a, env => (ev G a env).bind fun x e1 => match x with
    | .val (.int i) => .ok (.val (.int (-i))) e1
    | _ => .bad
  | .ite t a b, env => (truR (ev G t env)).bind fun c e1 => if c then ev G a e1 else ev G b e1
  | .tup es, env => (evs G es env).bind fun ds e1 => if ds.length ≤ BIG then .ok (.val (.tup ds)) e1 else .bad
  | .lst es, env => (evs G es env).bind fun ds e1 => if ds.length ≤ BIG then .ok (.val (.lst ds)) e1 else .bad
  | .ix a b, env => (ev G a env).bind fun x e1 => (ev G b e1).bind fun y e2 => match rdO e2 x, rdO e2 y with
    | some p, some q => lift e2 (ixD p q)
    | _, _ => .bad
  | .sl a lo hi, env => (ev G a env).bind fun x e1 => (evo G lo e1).bind fun i e2 => (evo G hi e2).bind fun j e3 => match rdO e3 x with
    | some p => lift e3 (slD p i j)
    | none => .bad
  | .rev a, env => (ev G a env).bind fun x e1 => match rdO e1 x with
    | some (.lst ds) => .ok (.val (.lst ds.reverse)) e1
    | _ => .bad
  | .call j es, env => match G.fns[j]? with
    | none => .bad
    | some f => if es.length = f.n then (eva G f.io 0 es env).bind fun p e1 => (match (p.1.mapM (rdO e1)) with
      | some ds => frR e1 f.io p.2 (f.sem ds)
      | none => .bad) else .bad
  | .meth j o es, env => match G.mts[j]? with
    | none => .bad
    | some m => (ev G o env).bind fun x e1 => match x with
      | .val (.obj C ns ds) => if C = m.C ∧ es.length + 1 = m.n ∧ ns.contains m.name = false then (evs G es e1).bind fun vs e2 => frR e2 none [] (m.sem (.obj C ns ds :: vs)) else .bad
      | _ => .bad
  | .make j es, env => match G.mks[j]? with
    | none => .bad
    | some m => if es.length = m.n then (evs G es env).bind fun vs e1 => (match m.sem vs with
      | .ok _ out => .ok (.val (.obj m.C m.ns out)) e1
      | .exc C f d _ => .exc C f d e1
      | .bad => .bad) else .bad
  | .blt b es, env => (evr G es env).bind fun os e1 => match os.mapM (rdO e1) with
    | some ds => lift e1 (bltD b ds)
    | none => .bad
  | .isin a ts, env => (ev G a env).bind fun x e1 => match rdO e1 x with
    | some d => if knownB G.cls d then .ok (.val (.bl (ts.any fun t => tyD t d))) e1 else .bad
    | none => .bad
  | .fld o f, env => (ev G o env).bind fun x e1 => match rdO e1 x with
    | some (.obj C ns ds) => if G.cls.contains C then lift e1 ((ns.zip ds).lookup f) else .bad
    | _ => .bad
  | .app i e, env => if ownB env i then (ev G e env).take.bind fun d e1 => match e1[i]? with
    | some (some (.own ds)) => if ds.length < BIG then .ok (.val .non) (e1.set i (some (.own (ds ++ [d])))) else .bad
    | _ => .bad
    else .bad
  | .pop i e, env => if ownB env i then (ev G e env).rd.bind fun d e1 => match e1[i]?, d with
    | some (some (.own ds)), .int k => if 0 ≤ k ∧ k < ds.length ∧ k < 1000000 then (match ds[k.toNat]? with
        | some x => .ok (.val x) (e1.set i (some (.own (ds.eraseIdx k.toNat))))
        | none => .bad) else .bad
    | _, _ => .bad
    else .bad
  | .lc tg it t e own, env => (noExc (evi G it env)).bind fun ds e1 => if ds.length ≤ BIG ∧ own.all (hideB e1) = true ∧ (tgOwn tg).all (fun i => own.contains i) = true then
        (noExc (lcLoop own tg (match t with
          | none => none
          | some t => some fun x => truR (ev G t x)) (fun x => (ev G e x).take) ds e1)).bind fun xs e2 => .ok (.val (.lst xs)) (backE e1 e2 own) else .bad
  | .lcf tg i t e own, env => match env[i]? with
    | some (some (.own ds)) => if ds.length ≤ BIG ∧ own.all (hideB (env.set i none)) = true ∧ (tgOwn tg).all (fun i => own.contains i) = true then
        (noExc (lcLoop own tg (match t with
          | none => none
          | some t => some fun x => truR (ev G t x)) (fun x => (ev G e x).take) ds (env.set i none))).bind fun xs e2 => (match (backE (env.set i none) e2 own)[i]? with
            | some none => .ok (.val (.lst xs)) ((backE (env.set i none) e2 own).set i (some (.own ds)))
            | _ => .bad) else .bad
    | _ => .bad
  | .lrng e, env => (ev G e env).rd.bind fun d e1 => match d with
    | .int j => if -1000000 ≤ j ∧ j ≤ BIG then .ok (.val (.lst (iotaD 0 j.toNat))) e1 else .bad
    | _ => .bad
  | .ocmp j a b, env => (ev G a env).bind fun x e1 => (ev G b e1).bind fun y e2 => match G.mts[j]?, x, y with
    | some m, .val (.obj C ns ds), .val (.obj C' ns' ds') => if C = m.C ∧ C' = m.C ∧ m.n = 2 then (match m.sem [.obj C ns ds, .obj C' ns' ds'] with
      | .ok (.bl k) _ => .ok (.val (.bl k)) e2
      | _ => .bad) else .bad
    | _, _, _ => .bad
  | .heard cs e, env => match ev G e env with
    | .ok _ e1 => .ok (.val .non) e1
    | .exc C f d e1 => lift e1 (hear cs C f d)
    | .bad => .bad
  | .sq e, env => (ev G e env).bind fun o e1 => match rdO e1 o with
    | some (.lst _) => .ok o e1
    | some (.tup _) => .ok o e1
    | _ => .bad
  | .lstS fs es, env => (evs G es env).bind fun ds e1 => match starD fs ds with
    | some xs => if xs.length ≤ BIG then .ok (.val (.lst xs)) e1 else .bad
    | none => .bad
  | .dnew, env => .ok (.val .dct) env
  | .dnv i, env => match env[i]? with
    | some (some (.dat _)) => .ok (.val .dct) env
    | _ => .bad
  | .olen j a, env => (ev G a env).bind fun x e1 => match G.mts[j]?, x with
    | some m, .val (.obj C ns ds) => if C = m.C ∧ m.n = 1 then (match m.sem [.obj C ns ds] with
      | .ok (.int k) _ => if 0 ≤ k ∧ k ≤ 1000000 then .ok (.val (.int k)) e1 else .bad
      | _ => .bad) else .bad
    | _, _ => .bad
  | .callv i alts es, env => match env[i]? with
    | some (some (.dat (.fn x))) => (match alts.lookup x with
      | none => .bad
      | some j => (match G.fns[j]? with
        | none => .bad
        | some f => if es.length = f.n ∧ f.io = none then (eva G none 0 es env).bind fun p e1 => (match (p.1.mapM (rdO e1)) with
          | some ds => frR e1 none p.2 (f.sem ds)
          | none => .bad) else .bad))
    | _ => .bad
  | .lc2 tg it tg1 it1 t e own own1, env => (noExc (evi G it env)).bind fun ds e1 => if ds.length ≤ 1000 ∧ own.all (hideB e1) = true ∧ (tgOwn tg).all (fun i => own.contains i) = true ∧ (tgOwn tg1).all (fun i => own1.contains i) = true ∧ own1.all (fun i => own.contains i) = true then
        (noExc (lc2Loop own tg (fun x => evi G it1 x) own1 tg1 (match t with
          | none => none
          | some t => some fun x => truR (ev G t x)) (fun x => (ev G e x).take) ds e1)).bind fun xs e2 => .ok (.val (.lst xs)) (backE e1 e2 own) else .bad
  | .lrng2 a b, env => (ev G a env).rd.bind fun d e1 => (ev G b e1).rd.bind fun c e2 => match d, c with
    | .int i, .int j => if -1000000 ≤ i ∧ i ≤ 1000000 ∧ -1000000 ≤ j ∧ j ≤ 1000000 ∧ j - i ≤ BIG then .ok (.val (.lst (iotaD i (j - i).toNat))) e2 else .bad
    | _, _ => .bad
  | .ext i e, env => if ownB env i then (ev G e env).take.bind fun d e1 => match e1[i]?, d with
    | some (some (.own ds)), .lst xs => if ds.length + xs.length ≤ BIG then .ok (.val .non) (e1.set i (some (.own (ds ++ xs)))) else .bad
    | _, _ => .bad
    else .bad
  | .obin j a b, env => (ev G a env).bind fun x e1 => (ev G b e1).bind fun y e2 => match G.mts[j]?, x, y with
    | some m, .val (.obj C ns ds), .val (.obj C' ns' ds') => if C = m.C ∧ C' = m.C ∧ m.n = 2 then (match m.sem [.obj C ns ds, .obj C' ns' ds'] with
      | .ok d _ => .ok (.val d) e2
      | _ => .bad) else .bad
    | _, _, _ => .bad
  | .oeq neg j a b, env => (ev G a env).bind fun x e1 => (ev G b e1).bind fun y e2 => match G.mts[j]?, x, y with
    | some m, .val (.obj C ns ds), .val d => if C = m.C ∧ m.n = 2 ∧ (match d with
        | .obj C' _ _ => decide (C' = m.C)
        | .raw _ => false
        | .fn _ => false
        | _ => true) = true then (match m.sem [.obj C ns ds, d] with
      | .ok (.bl k) _ => .ok (.val (.bl (neg ^^ k))) e2
      | _ => .bad) else .bad
    | _, _, _ => .bad
  | .thn i b m, env => (ev G m env).rd.bind fun d e1 => match d with
    | .non => .ok (.val .non) e1
    | .int n => if i < e1.length then (match ev G b ((datE e1).set i (some (.dat (.int n)))) with
      | .ok (.val x) _ => .ok (.val x) e1
      | _ => .bad) else .bad
    | _ => .bad
  | .callk j es ks, env => match G.fns[j]? with
    | none => .bad
    | some f => if es.length + ks.length = f.n ∧ f.io = none then (evs G es env).bind fun ds e1 => (evs G ks e1).bind fun zs e2 => frR e2 none [] (f.sem (ds ++ zs)) else .bad
  | .idx i e, env => if lstB env i then (ev G e env).rd.bind fun d e1 => match e1[i]?, d with
    | some (some (.dat (.lst ds))), .int v => (match intsD ds with
      | some ns => (match firstI v ns with
        | some j => if j < 1000000 then .ok (.val (.int j)) e1 else .bad
        | none => .bad)
      | none => .bad)
    | _, _ => .bad
    else .bad
  | .makeL j es, env => match G.mks[j]? with
    | none => .bad
    | some m => if es.length = m.n then (evr G es env).bind fun os e1 => (match os.mapM (rdO e1) with
      | none => .bad
      | some ds => (match m.sem ds with
        | .ok _ out => if nolDs out then .ok (.val (.obj m.C m.ns out)) e1 else .bad
        | .exc C f d _ => if nolD d then .exc C f d e1 else .bad
        | .bad => .bad)) else .bad
  | .heardN w cs e, env => match ev G e env with
    | .ok _ e1 => .ok (.val (.lst [.str w])) e1
    | .exc C f d e1 => lift e1 (hear cs C f d)
    | .bad => .bad
/-- items that are kept -/
def evs (G : Ctx) : List IR → Env → R (List D)
  | [], env => .ok [] env
  | e :: es, env => (ev G e env).take.bind fun d e1 => (evs G es e1).bind fun ds e2 => .ok (d :: ds) e2
/-- items that are looked at alone -/
def evr (G : Ctx) : List IR → Env → R (List Opd)
  | [], env => .ok [] env
  | e :: es, env => (ev G e env).bind fun d e1 => (evr G es e1).bind fun ds e2 => .ok (d :: ds) e2
/-- arguments; the one at io is handed over to be changed: its slot -/
def eva (G : Ctx) (io : Option Nat) : Nat → List IR → Env → R (List Opd × List Nat)
  | _, [], env => .ok ([], []) env
  | n, e :: es, env => if io = some n then (ev G e env).bind fun x e1 => (match x with
        | .pl i => (eva G io (n + 1) es e1).bind fun p e2 => .ok (.pl i :: p.1, i :: p.2) e2
        | _ => .bad)
      else (ev G e env).take.bind fun d e1 => (eva G io (n + 1) es e1).bind fun p e2 => .ok (.val d :: p.1, p.2) e2
def evo (G : Ctx) : Option IR → Env → R (Option Int)
  | none, env => .ok none env
  | some e, env => (ev G e env).rd.bind fun d e1 => match d with
    | .int i => .ok (some i) e1
    | _ => .bad
/-- what is walked -/
def evi (G : Ctx) : IT → Env → R (List D)
  | .seq e, env => (ev G e env).take.bind fun d e1 => match seqD d with
    | some ds => .ok ds e1
    | none => .bad
  | .rng1 e, env => (ev G e env).rd.bind fun d e1 => match d with
    | .int j => if -1000000 ≤ j ∧ j ≤ 1000000 then .ok (iotaD 0 j.toNat) e1 else .bad
    | _ => .bad
  | .rng2 a b, env => (ev G a env).rd.bind fun d e1 => (ev G b e1).rd.bind fun c e2 => match d, c with
    | .int i, .int j => if -1000000 ≤ i ∧ i ≤ 1000000 ∧ -1000000 ≤ j ∧ j ≤ 1000000 then .ok (iotaD i (j - i).toNat) e2 else .bad
    | _, _ => .bad
  | .rng3 a b c, env => (ev G a env).rd.bind fun d e1 => (ev G b e1).rd.bind fun d2 e2 => (ev G c e2).rd.bind fun d3 e3 => match d, d2, d3 with
    | .int i, .int j, .int k => if -1000000 ≤ i ∧ i ≤ 1000000 ∧ -1000000 ≤ j ∧ j ≤ 1000000 ∧ 0 < k ∧ k ≤ 1000000 then .ok (stepD i k (if i < j then (j - i - 1) / k + 1 else 0).toNat) e3 else .bad
    | _, _, _ => .bad
  | .txt e, env => (ev G e env).rd.bind fun d e1 => match d with
    | .str s => if s.length ≤ 1000 then .ok (signsD s) e1 else .bad
    | _ => .bad
  | .zip a b, env => (ev G a env).take.bind fun d e1 => (ev G b e1).take.bind fun c e2 => match lstD d, seqD c with
    | some xs, some ys => .ok (zipD xs ys) e2
    | _, _ => .bad
  | .enum a, env => (ev G a env).take.bind fun d e1 => match seqD d with
    | some xs => .ok (enumD 0 xs) e1
    | none => .bad
end
end Mp
set_option maxHeartbeats 2000000
namespace Mp
open PySem L2
variable [TabsW]
def MutAt (env : Env) (σ : L2.St) (a : Addr) : Prop := ∃ (i : Nat) (ds : List D), env[i]? = some (some (Cell.own ds)) ∧ σ[i]? = some (some (V.ref a))
/-- what may be changed here -/
def WW (A : AS) (env : Env) (σ : L2.St) : AS := fun a => A a ∨ MutAt env σ a
def MM (M0 : AS) (env : Env) (σ : L2.St) : AS := fun a => M0 a ∨ MutAt env σ a
/-- what is set apart is there, and the tables tell what they should -/
structure MOk (M : AS) (H : Hp) : Prop where
  al : ∀ a, M a → Lv H a
  tb : ∀ P q, (P, q) ∈ TabsW.T → LamX.TabS H P q
structure EnvR (K : PySem.W.Frag) (H0 : Hp) (M0 A : AS) (env : Env) (σ : L2.St) (H : Hp) : Prop where
  len : env.length = σ.length
  old : ∀ a o, H0 a = some o → ¬ A a → NT o → H a = some o
  alive : ∀ a, Lv H0 a → Lv H a
  tb : ∀ P q, (P, q) ∈ TabsW.T → LamX.TabS H P q
  m0 : ∀ a, M0 a → Lv H a
  aM : ∀ a, A a → M0 a
  a1 : ∀ a b, A a → A b → a = b
  dat : ∀ (i : Nat) (d : D), env[i]? = some (some (Cell.dat d)) → ∃ v, σ[i]? = some (some v) ∧ Rep K H (MM M0 env σ) d v
  own : ∀ (i : Nat) (ds : List D), env[i]? = some (some (Cell.own ds)) → ∃ a xs, σ[i]? = some (some (V.ref a)) ∧ H a = some (.lst xs) ∧ RepL K H (MM M0 env σ) ds xs ∧ ¬ M0 a ∧ ¬ Lv H0 a
  io : ∀ (i : Nat) (ds : List D), env[i]? = some (some (Cell.io ds)) → ∃ a xs, σ[i]? = some (some (V.ref a)) ∧ A a ∧ H a = some (.lst xs) ∧ RepL K H (MM M0 env σ) ds xs
  inj : ∀ (i j : Nat) (a : Addr) (ds es : List D), env[i]? = some (some (Cell.own ds)) → env[j]? = some (some (Cell.own es)) → σ[i]? = some (some (V.ref a)) → σ[j]? = some (some (V.ref a)) → i = j
  io1 : ∀ (i j : Nat) (ds es : List D), env[i]? = some (some (Cell.io ds)) → env[j]? = some (some (Cell.io es)) → i = j
  slf : ∀ (i : Nat) (C : Str) (ns : List Str) (ds : List D), env[i]? = some (some (Cell.slf C ns ds)) → False
def OpdR (K : PySem.W.Frag) (M0 : AS) (env : Env) (σ : L2.St) (H : Hp) : Opd → V → Prop
  | .val d, v => Rep K H (MM M0 env σ) d v
  | .pl i, v => σ[i]? = some (some v) ∧ ∃ c, env[i]? = some (some c)
/-- nothing new is ours, no slot is lost -/
structure Sub (σ : L2.St) (env env' : Env) : Prop where
  own : ∀ a, MutAt env' σ a → MutAt env σ a
  there : ∀ (i : Nat) (c : Cell), env[i]? = some (some c) → ∃ c', env'[i]? = some (some c')
  io : ∀ (i : Nat) (ds : List D), env'[i]? = some (some (Cell.io ds)) → ∃ es, env[i]? = some (some (Cell.io es))
  len : env'.length = env.length
theorem Sub.refl {σ : L2.St} {env : Env} : Sub σ env env := ⟨fun _ z => z, fun _ c h => ⟨c, h⟩, fun _ ds h => ⟨ds, h⟩, rfl⟩
theorem Sub.trans {σ : L2.St} {env e1 e2 : Env} (a : Sub σ env e1) (b : Sub σ e1 e2) : Sub σ env e2 :=
  ⟨fun x z => a.own x (b.own x z), fun i c h => let ⟨c1, h1⟩ := a.there i c h; b.there i c1 h1, fun i ds h => let ⟨es, h1⟩ := b.io i ds h; a.io i es h1, b.len.trans a.len⟩
section
variable {K : PySem.W.Frag} {H0 H H' : Hp} {M0 A : AS} {env env' : Env} {σ : L2.St}
theorem EnvR.freshL (E : EnvR K H0 M0 A env σ H) {p : Addr} (h : ¬ Lv H p) : ¬ MM M0 env σ p ∧ ¬ Lv H0 p := by
  refine ⟨fun z => ?_, fun z => h (E.alive p z)⟩
  rcases z with z | ⟨i, ds, e1, e2⟩
  · exact h (E.m0 p z)
  · obtain ⟨a, xs, s, q, _⟩ := E.own i ds e1
    rw [e2] at s; cases s
    exact h (Lv.lst q)
theorem EnvR.fresh (E : EnvR K H0 M0 A env σ H) {p : Addr} (h : H p = none) : ¬ MM M0 env σ p ∧ ¬ Lv H0 p := E.freshL (nn_of h)
theorem EnvR.mok (E : EnvR K H0 M0 A env σ H) : MOk (MM M0 env σ) H := ⟨fun a ha => Classical.byContradiction fun q => (E.freshL q).1 ha, E.tb⟩
theorem WW.sub (hA : ∀ a, A a → M0 a) : ∀ a, WW A env σ a → MM M0 env σ a := fun a z => z.elim (fun q => .inl (hA a q)) .inr
/-- a step that changes no list of ours -/
theorem EnvR.keep (E : EnvR K H0 M0 A env σ H) (s : Stp (fun _ => False) H H') : EnvR K H0 M0 A env σ H' := by
  have st : Stp (MM M0 env σ) H H' := s.weak fun _ z => z.elim
  refine ⟨E.len, fun a o h n t => s.st a o (E.old a o h n t) id t, fun a h => s.mo a (E.alive a h), fun P q h => s.tb P q h (E.tb P q h), fun a h => s.mo a (E.m0 a h), E.aM, E.a1, fun i d h => ?_, fun i ds h => ?_, fun i ds h => ?_, E.inj, E.io1, E.slf⟩
  · obtain ⟨v, a, b⟩ := E.dat i d h
    exact ⟨v, a, Rep.stp st (fun _ z => z) d v b⟩
  · obtain ⟨a, xs, b, c, d, e⟩ := E.own i ds h
    exact ⟨a, xs, b, s.st a _ c id nt_lst, RepL.stp st (fun _ z => z) ds xs d, e⟩
  · obtain ⟨a, xs, b, c, d, e⟩ := E.io i ds h
    exact ⟨a, xs, b, c, s.st a _ d id nt_lst, RepL.stp st (fun _ z => z) ds xs e⟩
theorem EnvR.new (E : EnvR K H0 M0 A env σ H) {p : Addr} {o : HO} (h : H p = none) : EnvR K H0 M0 A env σ (upd H p o) := E.keep (Stp.new h)
/-- what an operand is worth, read -/
theorem OpdR.rd (E : EnvR K H0 M0 A env σ H) {o : Opd} {v : V} {d : D} (r : OpdR K M0 env σ H o v) (e : rdO env o = some d) : Rep K H (fun _ => False) d v := by
  cases o with
  | val d' =>
    cases e
    exact Rep.stp Stp.refl (fun _ z => z.elim) d v r
  | pl i =>
    obtain ⟨h, c, hc⟩ := r
    have e' : (cellAt env i).map content = some d := e
    unfold cellAt at e'
    rw [hc] at e'
    cases c with
    | dat d' =>
      obtain ⟨v', s, l⟩ := E.dat i d' hc
      rw [h] at s; cases s
      cases e'
      exact Rep.stp Stp.refl (fun _ z => z.elim) d' v l
    | slf C ns ds => exact absurd hc (fun q => E.slf i C ns ds q)
    | own ds =>
      obtain ⟨a, xs, s, q, l, _⟩ := E.own i ds hc
      rw [h] at s; cases s
      cases e'
      unfold content Rep
      exact ⟨a, xs, rfl, .inl ⟨id, Rd.of q⟩, RepL.stp Stp.refl (fun _ z => z.elim) ds xs l⟩
    | io ds =>
      obtain ⟨a, xs, s, _, q, l⟩ := E.io i ds hc
      rw [h] at s; cases s
      cases e'
      unfold content Rep
      exact ⟨a, xs, rfl, .inl ⟨id, Rd.of q⟩, RepL.stp Stp.refl (fun _ z => z.elim) ds xs l⟩
/-- kept: the list is ours no more -/
theorem EnvR.take (E : EnvR K H0 M0 A env σ H) {o : Opd} {v : V} {d : D} (r : OpdR K M0 env σ H o v) (e : takeO env o = some (d, env')) :
    EnvR K H0 M0 A env' σ H ∧ Rep K H (MM M0 env' σ) d v ∧ Sub σ env env' := by
  cases o with
  | val d' =>
    cases e
    exact ⟨E, r, Sub.refl⟩
  | pl i =>
    obtain ⟨h, c, hc⟩ := r
    have e' : (match cellAt env i with | some (.own ds) => some (D.lst ds, env.set i (some (Cell.dat (D.lst ds)))) | some (.dat d) => some (d, env) | _ => none) = some (d, env') := e
    unfold cellAt at e'
    rw [hc] at e'
    cases c with
    | dat d' =>
      obtain ⟨v', s, l⟩ := E.dat i d' hc
      rw [h] at s; cases s
      cases e'
      exact ⟨E, l, Sub.refl⟩
    | slf C ns ds => exact absurd hc (fun q => E.slf i C ns ds q)
    | io ds => cases e'
    | own ds =>
      cases e'
      have hi : i < env.length := (List.getElem?_eq_some_iff.mp hc).1
      obtain ⟨a, xs, s, q, l, nm, h0⟩ := E.own i ds hc
      rw [h] at s; cases s
      have sub : ∀ b, MutAt (env.set i (some (Cell.dat (D.lst ds)))) σ b → MutAt env σ b := fun b ⟨j, es, e1, e2⟩ => by
        by_cases hj : i = j
        · subst hj; rw [List.getElem?_set_self hi] at e1; cases e1
        · rw [List.getElem?_set_ne hj] at e1; exact ⟨j, es, e1, e2⟩
      have subM : ∀ b, MM M0 (env.set i (some (Cell.dat (D.lst ds)))) σ b → MM M0 env σ b := fun b z => z.elim .inl fun q => .inr (sub b q)
      have na : ¬ MM M0 (env.set i (some (Cell.dat (D.lst ds)))) σ a := fun z => by
        rcases z with z | ⟨j, es, e1, e2⟩
        · exact nm z
        · by_cases hj : i = j
          · subst hj; rw [List.getElem?_set_self hi] at e1; cases e1
          · rw [List.getElem?_set_ne hj] at e1
            exact hj (E.inj i j a ds es hc e1 h e2)
      have rl : Rep K H (MM M0 (env.set i (some (Cell.dat (D.lst ds)))) σ) (.lst ds) (.ref a) := by
        unfold Rep
        exact ⟨a, xs, rfl, .inl ⟨na, Rd.of q⟩, RepL.stp Stp.refl subM ds xs l⟩
      have other : ∀ {j c}, (env.set i (some (Cell.dat (D.lst ds))))[j]? = some (some c) → (i = j ∧ c = .dat (.lst ds)) ∨ (i ≠ j ∧ env[j]? = some (some c)) := fun {j c} e1 => by
        by_cases hj : i = j
        · subst hj; rw [List.getElem?_set_self hi] at e1; cases e1; exact .inl ⟨rfl, rfl⟩
        · rw [List.getElem?_set_ne hj] at e1; exact .inr ⟨hj, e1⟩
      refine ⟨⟨by rw [List.length_set]; exact E.len, E.old, E.alive, E.tb, E.m0, E.aM, E.a1, fun j d' e1 => ?_, fun j es e1 => ?_, fun j es e1 => ?_, fun j k b es fs e1 e2 => ?_, fun j k es fs e1 e2 => ?_, fun j C ns es e1 => ?_⟩, rl, sub, fun j c e1 => ?_, fun j es e1 => ?_, List.length_set⟩
      · rcases other e1 with ⟨rfl, e⟩ | ⟨_, e1⟩
        · cases e; exact ⟨_, h, rl⟩
        · obtain ⟨v, a1, a2⟩ := E.dat j d' e1
          exact ⟨v, a1, Rep.stp Stp.refl subM d' v a2⟩
      · rcases other e1 with ⟨rfl, e⟩ | ⟨_, e1⟩
        · cases e
        · obtain ⟨b, ys, a1, a2, a3, a4⟩ := E.own j es e1
          exact ⟨b, ys, a1, a2, RepL.stp Stp.refl subM es ys a3, a4⟩
      · rcases other e1 with ⟨rfl, e⟩ | ⟨_, e1⟩
        · cases e
        · obtain ⟨b, ys, a1, a2, a3, a4⟩ := E.io j es e1
          exact ⟨b, ys, a1, a2, a3, RepL.stp Stp.refl subM es ys a4⟩
      · rcases other e1 with ⟨rfl, e⟩ | ⟨_, e1⟩
        · cases e
        · rcases other e2 with ⟨rfl, e⟩ | ⟨_, e2⟩
          · cases e
          · exact E.inj j k b es fs e1 e2
      · rcases other e1 with ⟨rfl, e⟩ | ⟨_, e1⟩
        · cases e
        · rcases other e2 with ⟨rfl, e⟩ | ⟨_, e2⟩
          · cases e
          · exact E.io1 j k es fs e1 e2
      · rcases other e1 with ⟨rfl, e⟩ | ⟨_, e1⟩
        · cases e
        · exact E.slf j C ns es e1
      · by_cases hj : i = j
        · subst hj; exact ⟨_, List.getElem?_set_self hi⟩
        · exact ⟨c, by rw [List.getElem?_set_ne hj]; exact e1⟩
      · rcases other e1 with ⟨rfl, e⟩ | ⟨_, e1⟩
        · cases e
        · exact ⟨es, e1⟩
/-- a value held while more is reckoned -/
theorem hold {d : D} {v : V} (r : Rep K H (MM M0 env σ) d v) (hA : ∀ a, A a → M0 a) (s : Stp (WW A env σ) H H') (sub : Sub σ env env') : Rep K H' (MM M0 env' σ) d v :=
  Rep.stp (s.weak (WW.sub hA)) (fun a z => z.elim .inl fun q => .inr (sub.own a q)) d v r
theorem holdL {d : List D} {v : List V} (r : RepL K H (MM M0 env σ) d v) (hA : ∀ a, A a → M0 a) (s : Stp (WW A env σ) H H') (sub : Sub σ env env') : RepL K H' (MM M0 env' σ) d v :=
  RepL.stp (s.weak (WW.sub hA)) (fun a z => z.elim .inl fun q => .inr (sub.own a q)) d v r
theorem OpdR.hold {o : Opd} {v : V} (r : OpdR K M0 env σ H o v) (hA : ∀ a, A a → M0 a) (s : Stp (WW A env σ) H H') (sub : Sub σ env env') : OpdR K M0 env' σ H' o v := by
  cases o with
  | val d => exact Mp.hold r hA s sub
  | pl i =>
    obtain ⟨h, c, hc⟩ := r
    exact ⟨h, sub.there i c hc⟩
theorem Stp.trans2 {H1 H2 : Hp} {e1 : Env} (a : Stp (WW A env σ) H H1) (b : Stp (WW A e1 σ) H1 H2) (sub : Sub σ env e1) : Stp (WW A env σ) H H2 :=
  a.trans (b.weak fun x z => z.elim .inl fun q => .inr (sub.own x q))
/-- what follows a reckoning: P of its outcome, W of an error -/
def Sat {α : Type} (K : PySem.W.Frag) (H0 : Hp) (M0 A : AS) (W : WX) (r : R α) (env : Env) (σ : L2.St) (H : Hp) (P : α → Env → Hp → Prop) : Prop := match r with
  | .ok o env' => ∀ H', Stp (WW A env σ) H H' → Sub σ env env' → EnvR K H0 M0 A env' σ H' → P o env' H'
  | .exc C f d env' => ∀ dd v H', Stp (WW A env σ) H H' → Sub σ env env' → EnvR K H0 M0 A env' σ H' → H' dd = some (.xd [(f, v)]) → Rep K H' (MM M0 env' σ) d v → W (.ref (clsAt K C)) (some dd) σ H'
  | .bad => False
variable {W : WX}
theorem Sat.bind {α β : Type} {r : R α} {f : α → Env → R β} {P : β → Env → Hp → Prop} (h : Sat K H0 M0 A W (r.bind f) env σ H P) :
    Sat K H0 M0 A W r env σ H fun o e1 H1 => Sat K H0 M0 A W (f o e1) e1 σ H1 P := by
  cases r with
  | bad => exact h
  | exc C n d e => exact h
  | ok o e1 =>
    intro H1 s1 sub1 E1
    have h' : Sat K H0 M0 A W (f o e1) env σ H P := h
    generalize f o e1 = q at h'
    show Sat K H0 M0 A W q e1 σ H1 P
    cases q with
    | bad => exact h'
    | exc C n d e => exact fun dd v H2 s2 sub2 E2 => h' dd v H2 (s1.trans2 s2 sub1) (sub1.trans sub2) E2
    | ok o2 e2 => exact fun H2 s2 sub2 E2 => h' H2 (s1.trans2 s2 sub1) (sub1.trans sub2) E2
theorem Sat.mono {α : Type} {r : R α} {P P' : α → Env → Hp → Prop} (h : Sat K H0 M0 A W r env σ H P) (m : ∀ o e1 H1, r = .ok o e1 → Stp (WW A env σ) H H1 → Sub σ env e1 → EnvR K H0 M0 A e1 σ H1 → P o e1 H1 → P' o e1 H1) : Sat K H0 M0 A W r env σ H P' := by
  cases r with
  | bad => exact h
  | exc C n d e => exact h
  | ok o e1 => exact fun H1 s1 sub1 E1 => m o e1 H1 rfl s1 sub1 E1 (h H1 s1 sub1 E1)
/-- fewer lists are ours from here on -/
theorem Sat.sub {α : Type} {r : R α} {P : α → Env → Hp → Prop} (h : Sat K H0 M0 A W r env σ H P) (u : Sub σ env env') : Sat K H0 M0 A W r env' σ H P := by
  have w : ∀ x, WW A env' σ x → WW A env σ x := fun x z => z.elim .inl fun q => .inr (u.own x q)
  cases r with
  | bad => exact h
  | exc C n d e => exact fun dd v H2 s2 sub2 E2 => h dd v H2 (s2.weak w) (u.trans sub2) E2
  | ok o e1 => exact fun H1 s1 sub1 E1 => h H1 (s1.weak w) (u.trans sub1) E1
/-- the heap has gone on -/
theorem Sat.step {α : Type} {r : R α} {P : α → Env → Hp → Prop} (h : Sat K H0 M0 A W r env σ H P) (s : Stp (WW A env σ) H H') : Sat K H0 M0 A W r env σ H' P := by
  cases r with
  | bad => exact h
  | exc C n d e => exact fun dd v H2 s2 sub2 E2 => h dd v H2 (s.trans s2) sub2 E2
  | ok o e1 => exact fun H1 s1 sub1 E1 => h H1 (s.trans s1) sub1 E1
end
end Mp
set_option maxHeartbeats 4000000
namespace Mp
open PySem L2
variable [TabsW]
abbrev NoA : AS := fun _ => False
/-- as Rep, the list itself may be one of ours -/
def RepT (K : PySem.W.Frag) (H : Hp) (M : AS) (d : D) (v : V) : Prop := match d with
  | .lst ds => ∃ a xs, v = .ref a ∧ SqL K H a xs ∧ RepL K H M ds xs
  | .tup ds => ∃ a xs, v = .ref a ∧ Rd H a (.tup xs) ∧ RepL K H M ds xs ∧ ¬ M a
  | d => Rep K H M d v
section
variable {K : PySem.W.Frag} {H H' : Hp} {M : AS} {d : D} {v : V}
theorem Rep.top (r : Rep K H M d v) : RepT K H M d v := by
  cases d with
  | lst ds => unfold Rep at r; obtain ⟨a, xs, h1, h2, h3⟩ := r; exact ⟨a, xs, h1, h2.l, h3⟩
  | tup ds => unfold Rep at r; obtain ⟨a, xs, h1, h0, h2, h3⟩ := r; exact ⟨a, xs, h1, h2, h3, h0⟩
  | _ => exact r
theorem RepT.loose (r : RepT K H M d v) : Rep K H NoA d v := by
  cases d with
  | lst ds =>
    obtain ⟨a, xs, h1, h2, h3⟩ := r
    unfold Rep
    exact ⟨a, xs, h1, RdK.ofS id h2, RepL.stp Stp.refl (fun _ z => z.elim) ds xs h3⟩
  | tup ds =>
    obtain ⟨a, xs, h1, h2, h3, _⟩ := r
    unfold Rep
    exact ⟨a, xs, h1, id, h2, RepL.stp Stp.refl (fun _ z => z.elim) ds xs h3⟩
  | non => exact Rep.stp (M := M) Stp.refl (fun _ z => z.elim) _ v r
  | bl b => exact Rep.stp (M := M) Stp.refl (fun _ z => z.elim) _ v r
  | int b => exact Rep.stp (M := M) Stp.refl (fun _ z => z.elim) _ v r
  | str b => exact Rep.stp (M := M) Stp.refl (fun _ z => z.elim) _ v r
  | obj C ns ds => exact Rep.stp (M := M) Stp.refl (fun _ z => z.elim) _ v r
  | raw b => exact Rep.stp (M := M) Stp.refl (fun _ z => z.elim) _ v r
  | dct => exact Rep.stp (M := M) Stp.refl (fun _ z => z.elim) _ v r
  | fn x => exact Rep.stp (M := M) Stp.refl (fun _ z => z.elim) _ v r
theorem RepT.int {i : Int} (r : RepT K H M (.int i) v) : v = .int i := by
  have r' : Rep K H M (.int i) v := r
  unfold Rep at r'; exact r'
theorem RepT.bl {i : Bool} (r : RepT K H M (.bl i) v) : v = .bl i := by
  have r' : Rep K H M (.bl i) v := r
  unfold Rep at r'; exact r'
theorem RepT.str {i : Str} (r : RepT K H M (.str i) v) : v = .str i := by
  have r' : Rep K H M (.str i) v := r
  unfold Rep at r'; exact r'
theorem RepT.non (r : RepT K H M .non v) : v = .non := by
  have r' : Rep K H M .non v := r
  unfold Rep at r'; exact r'
theorem rep_int (i : Int) : Rep K H M (.int i) (.int i) := by unfold Rep; rfl
theorem rep_bl (i : Bool) : Rep K H M (.bl i) (.bl i) := by unfold Rep; rfl
theorem rep_str (i : Str) : Rep K H M (.str i) (.str i) := by unfold Rep; rfl
theorem rep_non : Rep K H M .non .non := by unfold Rep; rfl
/-- a list just made -/
theorem rep_new {p : Addr} {ds : List D} {xs : List V} (hp : H p = none) (hM : ¬ M p) (r : RepL K H M ds xs) : Rep K (upd H p (.lst xs)) M (.lst ds) (.ref p) := by
  unfold Rep
  exact ⟨p, xs, rfl, .inl ⟨hM, Rd.of upd_same⟩, RepL.stp (Stp.new (M := M) hp) (fun _ z => z) ds xs r⟩
theorem rep_newT {p : Addr} {ds : List D} {xs : List V} (hp : H p = none) (hM : ¬ M p) (r : RepL K H M ds xs) : Rep K (upd H p (.tup xs)) M (.tup ds) (.ref p) := by
  unfold Rep
  exact ⟨p, xs, rfl, hM, Rd.of upd_same, RepL.stp (Stp.new (M := M) hp) (fun _ z => z) ds xs r⟩
end
section
variable {K : PySem.W.Frag} {H0 H H' : Hp} {M0 A : AS} {env env' : Env} {σ : L2.St}
theorem OpdR.rdT (E : EnvR K H0 M0 A env σ H) {o : Opd} {v : V} {d : D} (r : OpdR K M0 env σ H o v) (e : rdO env o = some d) : RepT K H (MM M0 env σ) d v := by
  cases o with
  | val d' =>
    cases e
    exact Rep.top r
  | pl i =>
    obtain ⟨h, c, hc⟩ := r
    have e' : (cellAt env i).map content = some d := e
    unfold cellAt at e'
    rw [hc] at e'
    cases c with
    | dat d' =>
      obtain ⟨v', s, l⟩ := E.dat i d' hc
      rw [h] at s; cases s
      cases e'
      exact Rep.top l
    | slf C ns ds => exact absurd hc (fun q => E.slf i C ns ds q)
    | own ds =>
      obtain ⟨a, xs, s, q, l, _⟩ := E.own i ds hc
      rw [h] at s; cases s
      cases e'
      exact ⟨a, xs, rfl, .inl (Rd.of q), l⟩
    | io ds =>
      obtain ⟨a, xs, s, _, q, l⟩ := E.io i ds hc
      rw [h] at s; cases s
      cases e'
      exact ⟨a, xs, rfl, .inl (Rd.of q), l⟩
end
/-- a two-place operation is what f says -/
def OpS (K : PySem.W.Frag) (r : R2) (f : D → D → Option D) : Prop := ∀ (M : AS) (x y : V) (H : Hp) (p q z : D) (Q : VK), RepT K H M p x → RepT K H M q y → (∀ a, H a = none → ¬ M a) → f p q = some z →
  (∀ v H', Stp NoA H H' → Rep K H' M z v → Q v H') → r x y H Q
def rOr (r r' : R2) : R2 := fun x y H Q => r x y H Q ∨ r' x y H Q
theorem OpR.or {X : Cx} {f : Value → Value → Sem Value} {r r' : R2} (a : OpR X f r) (b : OpR X f r') : OpR X f (rOr r r') := fun pins s σ H x y v u Q I rx ry h =>
  h.elim (fun q => a pins s σ H x y v u Q I rx ry q) fun q => b pins s σ H x y v u Q I rx ry q
/-- list + list, however they stand -/
def rCatR (K : PySem.W.Frag) : R2 := fun x y H Q => ∃ l b xs zs, x = .ref l ∧ y = .ref b ∧ SqL K H l xs ∧ SqL K H b zs ∧ xs.length + zs.length ≤ sizeLine ∧ ∀ p, H p = none → Q (.ref p) (upd H p (.lst (xs ++ zs)))
theorem op_catR {X : Cx} : OpR X (binaryOp .Add) (rCatR X.K) := by
  intro pins s σ H x y v u Q I rx ry h
  obtain ⟨l, b, xs, zs, rfl, rfl, hH, hB, hz, q⟩ := h
  cases rx
  cases ry
  obtain ⟨its, r, ⟨⟨cls, dd, data, sl⟩, n, ho, hc, hd0, hd⟩, hz1⟩ := I.list hH
  obtain ⟨its2, r2, ⟨⟨cls2, dd2, data2, sl2⟩, n2, ho2, hc2, hd02, hd2⟩, hz2⟩ := I.list hB
  simp only at hc hd hc2 hd2
  subst hc hd hc2 hd2
  have l1 := r.length
  have l2 := r2.length
  refine PySem.concat_meets ⟨_, ho, rfl⟩ ⟨_, ho2, rfl⟩ PySem.noFill_list_add PySem.seq_list_add PySem.F.slot_list_add PySem.F.entry_list_add (PySem.F.args_list_add_2 _ _) (PyProof.Rows.list_addW l b its.toArray its2.toArray n n2 dd dd2 sl sl2 (by rw [List.size_toArray, List.size_toArray]; omega)) ⟨ho, ho2, ?_⟩
  have ea : its.toArray ++ its2.toArray = (its ++ its2).toArray := by simp
  rw [ea]
  exact ⟨.ref _, _, I.lnew (t' := s.toks) (r.append r2) (by rw [List.length_append]; omega), rfl, q _ I.fresh⟩
def rAddU (K : PySem.W.Frag) : R2 := rOr (rI0 fun i j => .int (i + j)) (rOr (fun x y H Q => ∃ i j, x = .str i ∧ y = .str j ∧ i.length + j.length ≤ sizeLine ∧ Q (.str (i ++ j)) H) (rCatR K))
theorem op_addU {X : Cx} : OpR X (binaryOp .Add) (rAddU X.K) := OpR.or op_add (OpR.or op_add_str op_catR)
theorem s_add {K : PySem.W.Frag} : OpS K (rAddU K) addD := by
  intro M x y H p q z Q rp rq hM e k
  have hs : sizeLine = 16777216 := sizeLine_eq
  unfold addD at e
  split at e
  · cases e
    rw [rp.int, rq.int]
    exact .inl ⟨_, _, rfl, rfl, k _ _ Stp.refl (rep_int _)⟩
  · rename_i a b
    by_cases hl : a.length + b.length ≤ BIG
    · rw [if_pos hl] at e; cases e
      rw [rp.str, rq.str]
      exact .inr (.inl ⟨_, _, rfl, rfl, by unfold BIG at hl; omega, k _ _ Stp.refl (rep_str _)⟩)
    · rw [if_neg hl] at e; cases e
  · rename_i a b
    by_cases hl : a.length + b.length ≤ BIG
    · rw [if_pos hl] at e; cases e
      obtain ⟨la, xs, rfl, h1, r1⟩ := rp
      obtain ⟨lb, ys, rfl, h2, r2⟩ := rq
      refine .inr (.inr ⟨la, lb, xs, ys, rfl, rfl, h1, h2, by have := r1.length; have := r2.length; unfold BIG at hl; omega, fun p hp => k _ _ (Stp.new hp) (rep_new hp (hM p hp) (r1.append r2))⟩)
    · rw [if_neg hl] at e; cases e
  · cases e
theorem s_sub {K : PySem.W.Frag} : OpS K (rI0 fun i j => .int (i - j)) subD := by
  intro M x y H p q z Q rp rq hM e k
  unfold subD at e
  split at e
  · cases e
    rw [rp.int, rq.int]
    exact ⟨_, _, rfl, rfl, k _ _ Stp.refl (rep_int _)⟩
  · cases e
def rMulU : R2 := rI CMul fun i j => .int (i * j)
theorem s_mul {K : PySem.W.Frag} : OpS K rMulU (fun p q => match p, q with | .int _, .int _ => mulD p q | _, _ => none) := by
  intro M x y H p q z Q rp rq hM e k
  dsimp only at e
  split at e
  · rename_i i j
    unfold mulD at e
    dsimp only at e
    split at e
    · rename_i hc
      cases e
      rw [rp.int, rq.int]
      refine ⟨_, _, rfl, rfl, ?_, k _ _ Stp.refl (rep_int _)⟩
      unfold CMul
      have e64 : (2 : Int) ^ 64 = 18446744073709551616 := by decide
      rw [e64]
      exact hc
    · cases e
  · cases e
theorem s_fdiv {K : PySem.W.Frag} : OpS K (rI CDiv fun i j => .int (i / j)) fdivD := by
  intro M x y H p q z Q rp rq hM e k
  unfold fdivD at e
  split at e
  · split at e
    · rename_i hc
      cases e
      rw [rp.int, rq.int]
      exact ⟨_, _, rfl, rfl, hc, k _ _ Stp.refl (rep_int _)⟩
    · cases e
  · cases e
theorem s_mod {K : PySem.W.Frag} : OpS K (rI (fun _ j => 0 < j) fun i j => .int (i % j)) modD := by
  intro M x y H p q z Q rp rq hM e k
  unfold modD at e
  split at e
  · split at e
    · rename_i hc
      cases e
      rw [rp.int, rq.int]
      exact ⟨_, _, rfl, rfl, hc, k _ _ Stp.refl (rep_int _)⟩
    · cases e
  · cases e
theorem s_pow {K : PySem.W.Frag} : OpS K (rI CPow fun i j => .int (i ^ j.toNat)) powD := by
  intro M x y H p q z Q rp rq hM e k
  unfold powD at e
  split at e
  · split at e
    · rename_i hc
      cases e
      rw [rp.int, rq.int]
      exact ⟨_, _, rfl, rfl, hc, k _ _ Stp.refl (rep_int _)⟩
    · cases e
  · cases e
section
mutual
theorem eqD_py : ∀ (d e : D) (p q : PyData), toPy d = some p → toPy e = some q → PyData.eqv p q = eqD d e
  | .non, e, p, q, hp, hq => by
    unfold toPy at hp; cases hp
    cases e <;> (unfold toPy at hq) <;> first | (cases hq; done) | (cases hq; rfl) | (rename_i ds; cases h : toPys ds <;> (rw [h] at hq; cases hq); rfl)
  | .bl b, e, p, q, hp, hq => by
    unfold toPy at hp; cases hp
    cases e <;> (unfold toPy at hq) <;> first | (cases hq; done) | (cases hq; rfl) | (rename_i ds; cases h : toPys ds <;> (rw [h] at hq; cases hq); rfl)
  | .int b, e, p, q, hp, hq => by
    unfold toPy at hp; cases hp
    cases e <;> (unfold toPy at hq) <;> first | (cases hq; done) | (cases hq; rfl) | (rename_i ds; cases h : toPys ds <;> (rw [h] at hq; cases hq); rfl)
  | .str b, e, p, q, hp, hq => by
    unfold toPy at hp; cases hp
    cases e <;> (unfold toPy at hq) <;> first | (cases hq; done) | (cases hq; rfl) | (rename_i ds; cases h : toPys ds <;> (rw [h] at hq; cases hq); rfl)
  | .lst ds, e, p, q, hp, hq => by
    unfold toPy at hp
    cases h1 : toPys ds with
    | none => rw [h1] at hp; cases hp
    | some ps =>
      rw [h1] at hp; cases hp
      cases e with
      | lst es =>
        unfold toPy at hq
        cases h2 : toPys es with
        | none => rw [h2] at hq; cases hq
        | some qs => rw [h2] at hq; cases hq; exact eqDs_py ds es ps qs h1 h2
      | tup es =>
        unfold toPy at hq
        cases h2 : toPys es with
        | none => rw [h2] at hq; cases hq
        | some qs => rw [h2] at hq; cases hq; rfl
      | _ => unfold toPy at hq; cases hq <;> rfl
  | .tup ds, e, p, q, hp, hq => by
    unfold toPy at hp
    cases h1 : toPys ds with
    | none => rw [h1] at hp; cases hp
    | some ps =>
      rw [h1] at hp; cases hp
      cases e with
      | tup es =>
        unfold toPy at hq
        cases h2 : toPys es with
        | none => rw [h2] at hq; cases hq
        | some qs => rw [h2] at hq; cases hq; exact eqDs_py ds es ps qs h1 h2
      | lst es =>
        unfold toPy at hq
        cases h2 : toPys es with
        | none => rw [h2] at hq; cases hq
        | some qs => rw [h2] at hq; cases hq; rfl
      | _ => unfold toPy at hq; cases hq <;> rfl
  | .obj C ns ds, e, p, q, hp, hq => by unfold toPy at hp; cases hp
  | .raw v, e, p, q, hp, hq => by unfold toPy at hp; cases hp
  | .dct, e, p, q, hp, hq => by unfold toPy at hp; cases hp
  | .fn x, e, p, q, hp, hq => by unfold toPy at hp; cases hp
theorem eqDs_py : ∀ (ds es : List D) (ps qs : List PyData), toPys ds = some ps → toPys es = some qs → PyData.eqvAll ps qs = eqDs ds es
  | [], es, ps, qs, hp, hq => by
    unfold toPys at hp; cases hp
    cases es with
    | nil => unfold toPys at hq; cases hq; rfl
    | cons e es =>
      unfold toPys at hq
      cases h1 : toPy e with
      | none => rw [h1] at hq; cases hq
      | some q0 =>
        cases h2 : toPys es with
        | none => rw [h1, h2] at hq; cases hq
        | some q1 => rw [h1, h2] at hq; cases hq; rfl
  | d :: ds, es, ps, qs, hp, hq => by
    unfold toPys at hp
    cases h3 : toPy d with
    | none => rw [h3] at hp; cases hp
    | some p0 =>
      cases h4 : toPys ds with
      | none => rw [h3, h4] at hp; cases hp
      | some p1 =>
        rw [h3, h4] at hp; cases hp
        cases es with
        | nil => unfold toPys at hq; cases hq; rfl
        | cons e es =>
          unfold toPys at hq
          cases h1 : toPy e with
          | none => rw [h1] at hq; cases hq
          | some q0 =>
            cases h2 : toPys es with
            | none => rw [h1, h2] at hq; cases hq
            | some q1 =>
              rw [h1, h2] at hq; cases hq
              show (PyData.eqv p0 q0 && PyData.eqvAll p1 q1) = (eqD d e && eqDs ds es)
              rw [eqD_py d e p0 q0 h3 h1, eqDs_py ds es p1 q1 h4 h2]
end
end
end Mp
set_option maxHeartbeats 4000000
namespace Mp
open PySem L2
variable [TabsW]
mutual
theorem data_py : ∀ (n : Nat) (d : D), dataD n d = true → ∃ p, toPy d = some p ∧ p.canLay0 = true ∧ p.depth ≤ n
  | n, .non, h => ⟨.none, by unfold toPy; rfl, rfl, Nat.zero_le _⟩
  | n, .bl b, h => ⟨.bool b, by unfold toPy; rfl, rfl, Nat.zero_le _⟩
  | n, .int b, h => ⟨.int b, by unfold toPy; rfl, rfl, Nat.zero_le _⟩
  | n, .str b, h => ⟨.str b, by unfold toPy; rfl, by unfold dataD at h; exact h, Nat.zero_le _⟩
  | 0, .lst ds, h => by unfold dataD at h; cases h
  | 0, .tup ds, h => by unfold dataD at h; cases h
  | n + 1, .lst ds, h => by
    unfold dataD at h
    obtain ⟨ps, e, c, z⟩ := datas_py n ds h
    exact ⟨.list ps, by unfold toPy; rw [e] <;> rfl, c, by show PyData.depthAll ps + 1 ≤ n + 1; omega⟩
  | n + 1, .tup ds, h => by
    unfold dataD at h
    obtain ⟨ps, e, c, z⟩ := datas_py n ds h
    exact ⟨.tuple ps, by unfold toPy; rw [e] <;> rfl, c, by show PyData.depthAll ps + 1 ≤ n + 1; omega⟩
  | 0, .obj C ns ds, h => by unfold dataD at h; cases h
  | n + 1, .obj C ns ds, h => by unfold dataD at h; cases h
  | 0, .raw v, h => by unfold dataD at h; cases h
  | n + 1, .raw v, h => by unfold dataD at h; cases h
  | 0, .dct, h => by unfold dataD at h; cases h
  | n + 1, .dct, h => by unfold dataD at h; cases h
  | 0, .fn x, h => by unfold dataD at h; cases h
  | n + 1, .fn x, h => by unfold dataD at h; cases h
theorem datas_py : ∀ (n : Nat) (ds : List D), dataDs n ds = true → ∃ ps, toPys ds = some ps ∧ PyData.canLayAll0 ps = true ∧ PyData.depthAll ps ≤ n
  | n, [], h => ⟨[], by unfold toPys; rfl, rfl, Nat.zero_le _⟩
  | n, d :: ds, h => by
    unfold dataDs at h
    rw [Bool.and_eq_true] at h
    obtain ⟨p, e, c, z⟩ := data_py n d h.1
    obtain ⟨ps, e2, c2, z2⟩ := datas_py n ds h.2
    refine ⟨p :: ps, by unfold toPys; rw [e, e2] <;> rfl, ?_, ?_⟩
    · show (p.canLay0 && PyData.canLayAll0 ps) = true
      rw [c, c2] <;> rfl
    · show max p.depth (PyData.depthAll ps) ≤ n
      omega
end
theorem shaped_of {n : Nat} {d : D} (h : dataD n d = true) (hn : n ≤ 64) : ∃ p, toPy d = some p ∧ SeqAt.shaped p = true := by
  obtain ⟨p, e, c, z⟩ := data_py n d h
  refine ⟨p, e, ?_⟩
  unfold SeqAt.shaped
  rw [c, decide_eq_true (by omega : p.depth ≤ 64)]
  rfl
/-- a comparison is what cmpD says -/
def CmS (K : PySem.W.Frag) (r : R2) (op : COp) : Prop := OpS K r fun p q => (cmpD op p q).map D.bl
theorem OpS.imp {K : PySem.W.Frag} {r : R2} {f g : D → D → Option D} (h : OpS K r f) (i : ∀ p q z, g p q = some z → f p q = some z) : OpS K r g :=
  fun M x y H p q z Q rp rq hM e k => h M x y H p q z Q rp rq hM (i p q z e) k
section
variable {K : PySem.W.Frag}
theorem s_eq : CmS K (rEqD K) .eq := by
  intro M x y H p q z Q rp rq hM e k
  dsimp only [cmpD] at e
  split at e
  · rename_i hd
    cases e
    rw [Bool.and_eq_true] at hd
    obtain ⟨a, ea, sa⟩ := shaped_of hd.1 (by decide)
    obtain ⟨b, eb, sb⟩ := shaped_of hd.2 (by decide)
    refine ⟨a, b, dp_of p x a rp.loose ea, dp_of q y b rq.loose eb, sa, sb, ?_⟩
    rw [eqD_py p q a b ea eb]
    exact k _ _ Stp.refl (rep_bl _)
  · cases e
theorem s_ne : CmS K (rNeD K) .ne := by
  intro M x y H p q z Q rp rq hM e k
  dsimp only [cmpD] at e
  split at e
  · rename_i hd
    cases e
    rw [Bool.and_eq_true] at hd
    obtain ⟨a, ea, sa⟩ := shaped_of hd.1 (by decide)
    obtain ⟨b, eb, sb⟩ := shaped_of hd.2 (by decide)
    refine ⟨a, b, dp_of p x a rp.loose ea, dp_of q y b rq.loose eb, sa, sb, ?_⟩
    rw [eqD_py p q a b ea eb]
    exact k _ _ Stp.refl (rep_bl _)
  · cases e
theorem s_lt : CmS K (rI0 fun i j => .bl (decide (i < j))) .lt := by
  intro M x y H p q z Q rp rq hM e k
  cases p <;> cases q <;> first | (cases e; done) | skip
  cases e
  rw [rp.int, rq.int]
  exact ⟨_, _, rfl, rfl, k _ _ Stp.refl (rep_bl _)⟩
theorem s_le : CmS K (rI0 fun i j => .bl (decide (i ≤ j))) .le := by
  intro M x y H p q z Q rp rq hM e k
  cases p <;> cases q <;> first | (cases e; done) | skip
  cases e
  rw [rp.int, rq.int]
  exact ⟨_, _, rfl, rfl, k _ _ Stp.refl (rep_bl _)⟩
theorem s_gt : CmS K (rI0 fun i j => .bl (decide (j < i))) .gt := by
  intro M x y H p q z Q rp rq hM e k
  cases p <;> cases q <;> first | (cases e; done) | skip
  cases e
  rw [rp.int, rq.int]
  exact ⟨_, _, rfl, rfl, k _ _ Stp.refl (rep_bl _)⟩
theorem s_ge : CmS K (rI0 fun i j => .bl (decide (j ≤ i))) .ge := by
  intro M x y H p q z Q rp rq hM e k
  cases p <;> cases q <;> first | (cases e; done) | skip
  cases e
  rw [rp.int, rq.int]
  exact ⟨_, _, rfl, rfl, k _ _ Stp.refl (rep_bl _)⟩
theorem isNon_of {H : Hp} {M : AS} {p : D} {x : V} (r : RepT K H M p x) (hr : ∀ v, p ≠ .raw v) : decide (x = .non) = isNon p := by
  cases p with
  | non => rw [r.non]; rfl
  | bl b => rw [r.bl]; rfl
  | int b => rw [r.int]; rfl
  | str b => rw [r.str]; rfl
  | lst ds => obtain ⟨a, xs, rfl, _⟩ := r; rfl
  | tup ds => obtain ⟨a, xs, rfl, _⟩ := r; rfl
  | obj C ns ds =>
    have r' : Rep K H M (.obj C ns ds) x := r
    unfold Rep at r'
    obtain ⟨a, _, _, rfl, _⟩ := r'
    rfl
  | raw v => exact absurd rfl (hr v)
  | dct =>
    have r' : Rep K H M .dct x := r
    unfold Rep at r'
    obtain ⟨a, _, rfl, _⟩ := r'
    rfl
  | fn y =>
    have r' : Rep K H M (.fn y) x := r
    unfold Rep at r'
    subst r'
    rfl
theorem s_is : CmS K (rOr (fun x y H Q => y = .non ∧ Q (.bl (decide (x = .non))) H) (fun x y H Q => ∃ a b, x = .bl a ∧ y = .bl b ∧ Q (.bl (decide (a = b))) H)) .is_ := by
  intro M x y H p q z Q rp rq hM e k
  cases q with
  | non =>
    have hr : ∀ v, p ≠ .raw v := fun v z => by subst z; cases e
    have e' : some (D.bl (isNon p)) = some z := by cases p <;> first | exact e | exact absurd rfl (hr _)
    cases e'
    refine .inl ⟨rq.non, ?_⟩
    rw [isNon_of rp hr]
    exact k _ _ Stp.refl (rep_bl _)
  | bl b =>
    cases p <;> first | (cases e; done) | skip
    cases e
    rw [rp.bl, rq.bl]
    exact .inr ⟨_, _, rfl, rfl, k _ _ Stp.refl (rep_bl _)⟩
  | _ => cases p <;> cases e
theorem s_isnot : CmS K (rOr (fun x y H Q => y = .non ∧ Q (.bl (!decide (x = .non))) H) (fun x y H Q => ∃ a b, x = .bl a ∧ y = .bl b ∧ Q (.bl (!decide (a = b))) H)) .isnot := by
  intro M x y H p q z Q rp rq hM e k
  cases q with
  | non =>
    have hr : ∀ v, p ≠ .raw v := fun v z => by subst z; cases e
    have e' : some (D.bl (!isNon p)) = some z := by cases p <;> first | exact e | exact absurd rfl (hr _)
    cases e'
    refine .inl ⟨rq.non, ?_⟩
    rw [isNon_of rp hr]
    exact k _ _ Stp.refl (rep_bl _)
  | bl b =>
    cases p <;> first | (cases e; done) | skip
    cases e
    rw [rp.bl, rq.bl]
    exact .inr ⟨_, _, rfl, rfl, k _ _ Stp.refl (rep_bl _)⟩
  | _ => cases p <;> cases e
theorem atI_rep {H : Hp} {M : AS} {ds : List D} {xs : List V} {i : Int} {d : D} (r : RepL K H M ds xs) (e : atI ds i = some d) : ∃ x, atI xs i = some x ∧ Rep K H M d x := by
  unfold atI at e ⊢
  rw [r.length] at e
  cases h : ixN xs.length i with
  | none => rw [h] at e; cases e
  | some j =>
    rw [h] at e
    exact r.get e
theorem s_ix : OpS K (rOr (rIxL K) (rIxT K)) ixD := by
  intro M x y H p q z Q rp rq hM e k
  unfold ixD at e
  split at e
  · obtain ⟨a, xs, rfl, h, r⟩ := rp
    obtain ⟨w, e1, e2⟩ := atI_rep r e
    exact .inl ⟨a, xs, _, w, rfl, rq.int, h, e1, k _ _ Stp.refl e2⟩
  · obtain ⟨a, xs, rfl, h, r, _⟩ := rp
    obtain ⟨w, e1, e2⟩ := atI_rep r e
    exact .inr ⟨a, xs, _, w, rfl, rq.int, Rd.t h, e1, k _ _ Stp.refl e2⟩
  · cases e
/-- a call on values is what f says -/
def CaS (K : PySem.W.Frag) (r : List V → Hp → VK → Prop) (f : List D → Option D) : Prop := ∀ (M : AS) (xs : List V) (H : Hp) (ps : List D) (z : D) (Q : VK), Paired (RepT K H M) ps xs → (∀ a, H a = none → ¬ M a) → f ps = some z →
  (∀ v H', Stp NoA H H' → Rep K H' M z v → Q v H') → r xs H Q
theorem boolsD_of : ∀ {ds : List D} {ns : List Bool}, boolsD ds = some ns → ds = ns.map D.bl
  | [], ns, h => by unfold boolsD at h; cases h; rfl
  | d :: ds, ns, h => by
    cases d with
    | bl i =>
      unfold boolsD at h
      cases e : boolsD ds with
      | none => rw [e] at h; cases h
      | some ms => rw [e] at h; cases h; rw [boolsD_of e]; rfl
    | _ => unfold boolsD at h; cases h
theorem s_len : CaS K (fun xs H Q => ∃ x n, xs = [x] ∧ LenV K x H n ∧ Q (.int n) H) (bltD .len) := by
  intro M xs H ps z Q r hM e k
  have hs : sizeLine = 16777216 := sizeLine_eq
  cases r with
  | nil => cases e
  | cons r1 r2 =>
    rename_i d ds x xs'
    cases r2 with
    | cons a b => cases d <;> cases e
    | nil =>
      cases d with
      | lst es =>
        cases e
        obtain ⟨a, ys, rfl, h, rr⟩ := r1
        exact ⟨_, _, rfl, .inl ⟨ys, h, rfl⟩, by rw [← rr.length]; exact k _ _ Stp.refl (rep_int _)⟩
      | tup es =>
        cases e
        obtain ⟨a, ys, rfl, h, rr, _⟩ := r1
        exact ⟨_, _, rfl, .inr ⟨ys, Rd.t h, rfl⟩, by rw [← rr.length]; exact k _ _ Stp.refl (rep_int _)⟩
      | str s =>
        have e' : (if s.length ≤ 1000000 then some (D.int s.length) else none) = some z := e
        by_cases hl : s.length ≤ 1000000
        · rw [if_pos hl] at e'; cases e'
          rw [r1.str]
          exact ⟨_, _, rfl, ⟨by omega, rfl⟩, k _ _ Stp.refl (rep_int _)⟩
        · rw [if_neg hl] at e'; cases e'
      | _ => cases e
end
end Mp
set_option maxHeartbeats 4000000
namespace Mp
open PySem L2
variable [TabsW]
section
variable {K : PySem.W.Frag}
theorem one_of {H : Hp} {M : AS} {ps : List D} {xs : List V} {f : List D → Option D} {z : D} (r : Paired (RepT K H M) ps xs) (e : f ps = some z) (h0 : f [] = none) (h2 : ∀ a b c, f (a :: b :: c) = none) : ∃ d x, ps = [d] ∧ xs = [x] ∧ RepT K H M d x := by
  cases r with
  | nil => rw [h0] at e; cases e
  | cons r1 r2 =>
    cases r2 with
    | nil => exact ⟨_, _, rfl, rfl, r1⟩
    | cons a b => rw [h2] at e; cases e
theorem two_of {H : Hp} {M : AS} {ps : List D} {xs : List V} {f : List D → Option D} {z : D} (r : Paired (RepT K H M) ps xs) (e : f ps = some z) (h0 : f [] = none) (h1 : ∀ a, f [a] = none) (h3 : ∀ a b c d, f (a :: b :: c :: d) = none) :
    ∃ d x d' x', ps = [d, d'] ∧ xs = [x, x'] ∧ RepT K H M d x ∧ RepT K H M d' x' := by
  cases r with
  | nil => rw [h0] at e; cases e
  | cons r1 r2 =>
    cases r2 with
    | nil => rw [h1] at e; cases e
    | cons a b =>
      cases b with
      | nil => exact ⟨_, _, _, _, rfl, rfl, r1, a⟩
      | cons c d => rw [h3] at e; cases e
theorem s_int : CaS K (fun xs H Q => (∃ i, xs = [.int i] ∧ Q (.int i) H) ∨ ∃ k, xs = [.bl k] ∧ Q (.int (if k then 1 else 0)) H) (bltD .int) := by
  intro M xs H ps z Q r hM e k
  obtain ⟨d, x, rfl, rfl, rd⟩ := one_of r e rfl (fun a b c => by cases a <;> rfl)
  cases d <;> first | (cases e; done) | skip
  · cases e; rw [rd.bl]; exact .inr ⟨_, rfl, k _ _ Stp.refl (rep_int _)⟩
  · cases e; rw [rd.int]; exact .inl ⟨_, rfl, k _ _ Stp.refl (rep_int _)⟩
theorem s_max2 : CaS K (fun xs H Q => ∃ i j, xs = [.int i, .int j] ∧ Q (.int (if j > i then j else i)) H) (bltD .max2) := by
  intro M xs H ps z Q r hM e k
  obtain ⟨d, x, d', x', rfl, rfl, rd, rd'⟩ := two_of r e rfl (fun a => by cases a <;> rfl) (fun a b c d => by cases a <;> cases b <;> rfl)
  cases d <;> cases d' <;> first | (cases e; done) | skip
  cases e; rw [rd.int, rd'.int]; exact ⟨_, _, rfl, k _ _ Stp.refl (rep_int _)⟩
theorem s_min2 : CaS K (fun xs H Q => ∃ i j, xs = [.int i, .int j] ∧ Q (.int (if j < i then j else i)) H) (bltD .min2) := by
  intro M xs H ps z Q r hM e k
  obtain ⟨d, x, d', x', rfl, rfl, rd, rd'⟩ := two_of r e rfl (fun a => by cases a <;> rfl) (fun a b c d => by cases a <;> cases b <;> rfl)
  cases d <;> cases d' <;> first | (cases e; done) | skip
  cases e; rw [rd.int, rd'.int]; exact ⟨_, _, rfl, k _ _ Stp.refl (rep_int _)⟩
theorem s_tuple : CaS K (fun xs H Q => ∃ p ys, xs = [.ref p] ∧ ((SqL K H p ys ∧ ∀ l, H l = none → Q (.ref l) (upd H l (.tup ys))) ∨ (SqT K H p ys ∧ Q (.ref p) H))) (bltD .tuple) := by
  intro M xs H ps z Q r hM e k
  obtain ⟨d, x, rfl, rfl, rd⟩ := one_of r e rfl (fun a b c => by cases a <;> rfl)
  cases d <;> first | (cases e; done) | skip
  · cases e
    obtain ⟨a, ys, rfl, hr, rr⟩ := rd
    exact ⟨a, ys, rfl, .inl ⟨hr, fun l hl => k _ _ (Stp.new hl) (rep_newT hl (hM l hl) rr)⟩⟩
  · cases e
    obtain ⟨a, ys, rfl, hr, rr, n⟩ := rd
    exact ⟨a, ys, rfl, .inr ⟨Rd.t hr, k _ _ Stp.refl (by unfold Rep; exact ⟨a, ys, rfl, n, hr, rr⟩)⟩⟩
theorem s_all : CaS K (rAll K) (bltD .all) := by
  intro M xs H ps z Q r hM e k
  obtain ⟨d, x, rfl, rfl, rd⟩ := one_of r e rfl (fun a b c => by cases a <;> rfl)
  cases d <;> first | (cases e; done) | skip
  rename_i ds
  have e' : (boolsD ds).map (fun bs => D.bl (bs.all id)) = some z := e
  cases h : boolsD ds with
  | none => rw [h] at e'; cases e'
  | some ns =>
    rw [h] at e'; cases e'
    have := boolsD_of h
    subst this
    obtain ⟨a, ys, rfl, hr, rr⟩ := rd
    have := rr.bools
    subst this
    exact ⟨a, ns, rfl, hr, k _ _ Stp.refl (rep_bl _)⟩
end
end Mp
set_option maxHeartbeats 4000000
namespace Mp
open PySem L2
variable [TabsW]
def IoA (io : Option Nat) (vs : List V) : AS := fun a => ∃ i, io = some i ∧ vs[i]? = some (.ref a)
def ArgR (K : PySem.W.Frag) (H : Hp) (M : AS) (io : Option Nat) (ds : List D) (vs : List V) : Prop := ds.length = vs.length ∧ ∀ (i : Nat) (d : D) (v : V), ds[i]? = some d → vs[i]? = some v →
  (io ≠ some i → Rep K H M d v) ∧ (io = some i → ∃ a xs es, d = .lst es ∧ v = .ref a ∧ M a ∧ H a = some (.lst xs) ∧ RepL K H M es xs)
def OutR (K : PySem.W.Frag) (H : Hp) (M : AS) (io : Option Nat) (out : List D) (vs : List V) : Prop := ∀ i, io = some i → ∃ a xs, vs[i]? = some (.ref a) ∧ H a = some (.lst xs) ∧ RepL K H M out xs
/-- what a def with the sense F promises: n arguments, the one at io is changed -/
def spF (K : PySem.W.Frag) (n : Nat) (io : Option Nat) (F : List D → FR) : Sp := fun vs H Q E => vs.length = n ∧ ∃ (M : AS) (ds : List D), MOk M H ∧ ArgR K H M io ds vs ∧
  (match F ds with
   | .ok d out => ∀ v H', Stp (IoA io vs) H H' → OutR K H' M io out vs → Rep K H' M d v → Q v H'
   | .exc C f d out => ∀ dd v H', Stp (IoA io vs) H H' → OutR K H' M io out vs → H' dd = some (.xd [(f, v)]) → Rep K H' M d v → E (.ref (clsAt K C)) (some dd) H'
   | .bad => False)
section
variable {K : PySem.W.Frag} {H0 H H' : Hp} {M0 A : AS} {env env' : Env} {σ : L2.St}
theorem EnvR.setOwn (E : EnvR K H0 M0 A env σ H) {i : Nat} {ds out : List D} {a : Addr} {ys : List V} (hc : env[i]? = some (some (Cell.own ds))) (ha : σ[i]? = some (some (V.ref a))) (s : Stp (fun x => x = a) H H') (h' : H' a = some (.lst ys))
    (r : RepL K H' (MM M0 env σ) out ys) : EnvR K H0 M0 A (env.set i (some (Cell.own out))) σ H' ∧ Sub σ env (env.set i (some (Cell.own out))) ∧ MM M0 (env.set i (some (Cell.own out))) σ = MM M0 env σ := by
  have hi : i < env.length := (List.getElem?_eq_some_iff.mp hc).1
  obtain ⟨a', xs, sa, q, l, nm, h0⟩ := E.own i ds hc
  rw [ha] at sa; cases sa
  have mutI : ∀ b, MutAt (env.set i (some (Cell.own out))) σ b ↔ MutAt env σ b := fun b => by
    constructor
    · rintro ⟨j, es, e1, e2⟩
      by_cases hj : i = j
      · subst hj; exact ⟨i, ds, hc, e2⟩
      · rw [List.getElem?_set_ne hj] at e1; exact ⟨j, es, e1, e2⟩
    · rintro ⟨j, es, e1, e2⟩
      by_cases hj : i = j
      · subst hj; exact ⟨i, out, List.getElem?_set_self hi, e2⟩
      · exact ⟨j, es, by rw [List.getElem?_set_ne hj]; exact e1, e2⟩
  have eM : MM M0 (env.set i (some (Cell.own out))) σ = MM M0 env σ := by
    funext b
    exact propext ⟨fun z => z.elim .inl fun q => .inr ((mutI b).mp q), fun z => z.elim .inl fun q => .inr ((mutI b).mpr q)⟩
  have Ma : MM M0 env σ a := .inr ⟨i, ds, hc, ha⟩
  have st : Stp (MM M0 env σ) H H' := s.weak fun x e => e ▸ Ma
  have other : ∀ {j c}, (env.set i (some (Cell.own out)))[j]? = some (some c) → (i = j ∧ c = .own out) ∨ (i ≠ j ∧ env[j]? = some (some c)) := fun {j c} e1 => by
    by_cases hj : i = j
    · subst hj; rw [List.getElem?_set_self hi] at e1; cases e1; exact .inl ⟨rfl, rfl⟩
    · rw [List.getElem?_set_ne hj] at e1; exact .inr ⟨hj, e1⟩
  refine ⟨⟨by rw [List.length_set]; exact E.len, fun b o e n t => ?_, fun b h => s.mo b (E.alive b h), fun P q h => s.tb P q h (E.tb P q h), fun b hb => s.mo b (E.m0 b hb), E.aM, E.a1, fun j d' e1 => ?_, fun j es e1 => ?_, fun j es e1 => ?_, fun j k b es fs e1 e2 e3 e4 => ?_, fun j k es fs e1 e2 => ?_, fun j C ns es e1 => ?_⟩, ⟨fun b z => (mutI b).mp z, fun j c e1 => ?_, fun j es e1 => ?_, List.length_set⟩, eM⟩
  · exact s.st b o (E.old b o e n t) (fun z => h0 ⟨o, by rw [← z]; exact e, t⟩) t
  · rw [eM]
    rcases other e1 with ⟨rfl, e⟩ | ⟨_, e1⟩
    · cases e
    · obtain ⟨v, a1, a2⟩ := E.dat j d' e1
      exact ⟨v, a1, Rep.stp st (fun _ z => z) d' v a2⟩
  · rw [eM]
    rcases other e1 with ⟨rfl, e⟩ | ⟨hj, e1⟩
    · cases e; exact ⟨a, ys, ha, h', r, nm, h0⟩
    · obtain ⟨b, zs, a1, a2, a3, a4⟩ := E.own j es e1
      exact ⟨b, zs, a1, s.st b _ a2 (fun z => by subst z; exact hj (E.inj i j b ds es hc e1 ha a1)) nt_lst, RepL.stp st (fun _ z => z) es zs a3, a4⟩
  · rw [eM]
    rcases other e1 with ⟨rfl, e⟩ | ⟨hj, e1⟩
    · cases e
    · obtain ⟨b, zs, a1, a2, a3, a4⟩ := E.io j es e1
      exact ⟨b, zs, a1, a2, s.st b _ a3 (fun z => by subst z; exact nm (E.aM b a2)) nt_lst, RepL.stp st (fun _ z => z) es zs a4⟩
  · rcases other e1 with ⟨rfl, e⟩ | ⟨_, e1⟩
    · rcases other e2 with ⟨rfl, _⟩ | ⟨_, e2⟩
      · rfl
      · exact E.inj i k b ds fs hc e2 e3 e4
    · rcases other e2 with ⟨rfl, e⟩ | ⟨_, e2⟩
      · exact E.inj j i b es ds e1 hc e3 e4
      · exact E.inj j k b es fs e1 e2 e3 e4
  · rcases other e1 with ⟨rfl, e⟩ | ⟨_, e1⟩
    · cases e
    · rcases other e2 with ⟨rfl, e⟩ | ⟨_, e2⟩
      · cases e
      · exact E.io1 j k es fs e1 e2
  · rcases other e1 with ⟨rfl, e⟩ | ⟨_, e1⟩
    · cases e
    · exact E.slf j C ns es e1
  · by_cases hj : i = j
    · subst hj; exact ⟨_, List.getElem?_set_self hi⟩
    · exact ⟨c, by rw [List.getElem?_set_ne hj]; exact e1⟩
  · rcases other e1 with ⟨rfl, e⟩ | ⟨_, e1⟩
    · cases e
    · exact ⟨es, e1⟩
theorem EnvR.setIo (E : EnvR K H0 M0 A env σ H) {i : Nat} {ds out : List D} {a : Addr} {ys : List V} (hc : env[i]? = some (some (Cell.io ds))) (ha : σ[i]? = some (some (V.ref a))) (s : Stp (fun x => x = a) H H') (h' : H' a = some (.lst ys))
    (r : RepL K H' (MM M0 env σ) out ys) : EnvR K H0 M0 A (env.set i (some (Cell.io out))) σ H' ∧ Sub σ env (env.set i (some (Cell.io out))) ∧ MM M0 (env.set i (some (Cell.io out))) σ = MM M0 env σ := by
  have hi : i < env.length := (List.getElem?_eq_some_iff.mp hc).1
  obtain ⟨a', xs, sa, Aa, q, l⟩ := E.io i ds hc
  rw [ha] at sa; cases sa
  have mutI : ∀ b, MutAt (env.set i (some (Cell.io out))) σ b ↔ MutAt env σ b := fun b => by
    constructor
    · rintro ⟨j, es, e1, e2⟩
      by_cases hj : i = j
      · subst hj; rw [List.getElem?_set_self hi] at e1; cases e1
      · rw [List.getElem?_set_ne hj] at e1; exact ⟨j, es, e1, e2⟩
    · rintro ⟨j, es, e1, e2⟩
      by_cases hj : i = j
      · subst hj; rw [hc] at e1; cases e1
      · exact ⟨j, es, by rw [List.getElem?_set_ne hj]; exact e1, e2⟩
  have eM : MM M0 (env.set i (some (Cell.io out))) σ = MM M0 env σ := by
    funext b
    exact propext ⟨fun z => z.elim .inl fun q => .inr ((mutI b).mp q), fun z => z.elim .inl fun q => .inr ((mutI b).mpr q)⟩
  have Ma : MM M0 env σ a := .inl (E.aM a Aa)
  have st : Stp (MM M0 env σ) H H' := s.weak fun x e => e ▸ Ma
  have other : ∀ {j c}, (env.set i (some (Cell.io out)))[j]? = some (some c) → (i = j ∧ c = .io out) ∨ (i ≠ j ∧ env[j]? = some (some c)) := fun {j c} e1 => by
    by_cases hj : i = j
    · subst hj; rw [List.getElem?_set_self hi] at e1; cases e1; exact .inl ⟨rfl, rfl⟩
    · rw [List.getElem?_set_ne hj] at e1; exact .inr ⟨hj, e1⟩
  refine ⟨⟨by rw [List.length_set]; exact E.len, fun b o e n t => ?_, fun b h => s.mo b (E.alive b h), fun P q h => s.tb P q h (E.tb P q h), fun b hb => s.mo b (E.m0 b hb), E.aM, E.a1, fun j d' e1 => ?_, fun j es e1 => ?_, fun j es e1 => ?_, fun j k b es fs e1 e2 e3 e4 => ?_, fun j k es fs e1 e2 => ?_, fun j C ns es e1 => ?_⟩, ⟨fun b z => (mutI b).mp z, fun j c e1 => ?_, fun j es e1 => ?_, List.length_set⟩, eM⟩
  · exact s.st b o (E.old b o e n t) (fun z => n (z ▸ Aa)) t
  · rw [eM]
    rcases other e1 with ⟨rfl, e⟩ | ⟨_, e1⟩
    · cases e
    · obtain ⟨v, a1, a2⟩ := E.dat j d' e1
      exact ⟨v, a1, Rep.stp st (fun _ z => z) d' v a2⟩
  · rw [eM]
    rcases other e1 with ⟨rfl, e⟩ | ⟨hj, e1⟩
    · cases e
    · obtain ⟨b, zs, a1, a2, a3, a4, a5⟩ := E.own j es e1
      exact ⟨b, zs, a1, s.st b _ a2 (fun z => by subst z; exact a4 (E.aM b Aa)) nt_lst, RepL.stp st (fun _ z => z) es zs a3, a4, a5⟩
  · rw [eM]
    rcases other e1 with ⟨rfl, e⟩ | ⟨hj, e1⟩
    · cases e; exact ⟨a, ys, ha, Aa, h', r⟩
    · exact absurd (E.io1 i j ds es hc e1) hj
  · rcases other e1 with ⟨rfl, e⟩ | ⟨_, e1⟩
    · cases e
    · rcases other e2 with ⟨rfl, e⟩ | ⟨_, e2⟩
      · cases e
      · exact E.inj j k b es fs e1 e2 e3 e4
  · rcases other e1 with ⟨rfl, e⟩ | ⟨_, e1⟩
    · rcases other e2 with ⟨rfl, _⟩ | ⟨_, e2⟩
      · rfl
      · exact E.io1 i k ds fs hc e2
    · rcases other e2 with ⟨rfl, e⟩ | ⟨_, e2⟩
      · exact E.io1 j i es ds e1 hc
      · exact E.io1 j k es fs e1 e2
  · rcases other e1 with ⟨rfl, e⟩ | ⟨_, e1⟩
    · cases e
    · exact E.slf j C ns es e1
  · by_cases hj : i = j
    · subst hj; exact ⟨_, List.getElem?_set_self hi⟩
    · exact ⟨c, by rw [List.getElem?_set_ne hj]; exact e1⟩
  · rcases other e1 with ⟨rfl, e⟩ | ⟨_, e1⟩
    · exact ⟨ds, hc⟩
    · exact ⟨es, e1⟩
end
variable (G : Ctx) (W : WX) (K : PySem.W.Frag)
def tI (i : IR) : TE := fun σ H Q => ∃ H0 M0 A env, EnvR K H0 M0 A env σ H ∧ Sat K H0 M0 A W (ev G i env) env σ H fun o e1 H1 => ∀ v, OpdR K M0 e1 σ H1 o v → Q v H1
def tIt (i : IR) : TT := fun σ H Q => ∃ H0 M0 A env, EnvR K H0 M0 A env σ H ∧ Sat K H0 M0 A W (truR (ev G i env)) env σ H fun b e1 H1 => Q b H1
def tIs (is : List IR) : TA := fun σ H Q => ∃ H0 M0 A env, EnvR K H0 M0 A env σ H ∧ Sat K H0 M0 A W (evs G is env) env σ H fun ds e1 H1 => ∀ vs, RepL K H1 (MM M0 e1 σ) ds vs → Q vs H1
def tIr (is : List IR) : TA := fun σ H Q => ∃ H0 M0 A env, EnvR K H0 M0 A env σ H ∧ Sat K H0 M0 A W (evr G is env) env σ H fun os e1 H1 => ∀ vs, Paired (OpdR K M0 e1 σ H1) os vs → Q vs H1
def tIo (i : Option IR) : TO := fun σ H Q => ∃ H0 M0 A env, EnvR K H0 M0 A env σ H ∧ Sat K H0 M0 A W (evo G i env) env σ H fun o e1 H1 => Q o H1
def tIa (io : Option Nat) (n : Nat) (is : List IR) : TA := fun σ H Q => ∃ H0 M0 A env, EnvR K H0 M0 A env σ H ∧ Sat K H0 M0 A W (eva G io n is env) env σ H fun p e1 H1 => ∀ vs, Paired (OpdR K M0 e1 σ H1) p.1 vs → Q vs H1
end Mp
set_option maxHeartbeats 4000000
namespace Mp
open PySem L2
variable [TabsW]
section
variable {X : Cx} {G : Ctx} {W : WX}
theorem PE.by_ {e : Expr} {t t' : TE} (h : PE X e t) (i : ∀ σ H Q, t' σ H Q → t σ H Q) : PE X e t' := ⟨fun pins s σ H Q I q => h.run pins s σ H Q I (i σ H Q q)⟩
theorem PT.by_ {e : Expr} {t t' : TT} (h : PT X e t) (i : ∀ σ H Q, t' σ H Q → t σ H Q) : PT X e t' := ⟨fun pins s σ H Q I q => h.run pins s σ H Q I (i σ H Q q)⟩
theorem PW.by_ {e : Expr} {t t' : TT} (h : PW X e t) (i : ∀ σ H Q, t' σ H Q → t σ H Q) : PW X e t' := ⟨fun wh pins s σ H Q I q => h.run wh pins s σ H Q I (i σ H Q q)⟩
theorem PA.by_ {e : List Expr} {t t' : TA} (h : PA X e t) (i : ∀ σ H Q, t' σ H Q → t σ H Q) : PA X e t' := ⟨fun pos pins s σ H Q I q => h.run pos pins s σ H Q I (i σ H Q q)⟩
theorem PO.by_ {e : Option Expr} {t t' : TO} (h : PO X e t) (i : ∀ σ H Q, t' σ H Q → t σ H Q) : PO X e t' := ⟨fun pins s σ H Q I q => h.run pins s σ H Q I (i σ H Q q)⟩
theorem Stp.no {M : AS} {H H' : Hp} (s : Stp NoA H H') : Stp M H H' := s.weak fun _ z => z.elim
/-- a constant -/
theorem e_c {e : Expr} {d : D} {v : V} (h : PE X e (tC v)) (r : ∀ H M, Rep X.K H M d v) : PE X e (tI G W X.K (.c d)) := PE.by_ h fun σ H Q q => by
  obtain ⟨H0, M0, A, env, E, q⟩ := q
  unfold ev at q
  exact q H Stp.refl Sub.refl E v (r H _)
theorem e_v {x : Str} {pos : Pos} {i : Nat} (hN : X.N[i]? = some x) (hv : Vis X.env.scope x) (hd : (x == ("__debug__" : Str)) = false) (hcd : (x == ("__classdict__" : Str)) = false) : PE X (.Name x pos) (tI G W X.K (.v i)) := PE.by_ (pe_var hN hv hd hcd) fun σ H Q q => by
  obtain ⟨H0, M0, A, env, E, q⟩ := q
  unfold ev at q
  cases e : env[i]? with
  | none =>
    have : cellAt env i = none := by unfold cellAt; rw [e]; rfl
    rw [this] at q
    exact q.elim
  | some o =>
    have hc : cellAt env i = o := by unfold cellAt; rw [e]; rfl
    rw [hc] at q
    cases o with
    | none => exact q.elim
    | some c =>
      cases c with
      | dat d =>
        obtain ⟨v, s, r⟩ := E.dat i d e
        exact ⟨v, s, q H Stp.refl Sub.refl E v r⟩
      | own ds =>
        obtain ⟨a, xs, s, r⟩ := E.own i ds e
        exact ⟨_, s, q H Stp.refl Sub.refl E _ ⟨s, _, e⟩⟩
      | io ds =>
        obtain ⟨a, xs, s, r⟩ := E.io i ds e
        exact ⟨_, s, q H Stp.refl Sub.refl E _ ⟨s, _, e⟩⟩
      | slf C ns ds => exact q.elim
/-- behind the operands of a two-place operation -/
theorem op_end {K : PySem.W.Frag} {H0 H : Hp} {M0 A : AS} {env : Env} {σ : L2.St} {Q : VK} {r : R2} {f : D → D → Option D} {x y : V} {o o2 : Opd} (hs : OpS K r f) (E : EnvR K H0 M0 A env σ H) (hx : OpdR K M0 env σ H o x) (hy : OpdR K M0 env σ H o2 y)
    (h : Sat K H0 M0 A W (match rdO env o, rdO env o2 with
      | some p, some q => lift env (f p q)
      | _, _ => .bad) env σ H fun o e1 H1 => ∀ v, OpdR K M0 e1 σ H1 o v → Q v H1) : r x y H Q := by
  cases e1 : rdO env o with
  | none => rw [e1] at h; exact h.elim
  | some p =>
    cases e2 : rdO env o2 with
    | none => rw [e1, e2] at h; exact h.elim
    | some q =>
      rw [e1, e2] at h
      cases e3 : f p q with
      | none =>
        dsimp only at h
        rw [e3] at h
        exact h.elim
      | some z =>
        dsimp only at h
        rw [e3] at h
        exact hs (MM M0 env σ) x y H p q z Q (hx.rdT E e1) (hy.rdT E e2) (fun a ha => (E.fresh ha).1) e3 fun v H' st rv => h H' st.no Sub.refl (E.keep st) v rv
theorem op_read {K : PySem.W.Frag} {a b : IR} {i : IR} {r : R2} {f : D → D → Option D} (hs : OpS K r f)
    (he : ∀ env, ev G i env = (ev G a env).bind fun x e1 => (ev G b e1).bind fun y e2 => match rdO e2 x, rdO e2 y with
      | some p, some q => lift e2 (f p q)
      | _, _ => .bad) {σ : L2.St} {H : Hp} {Q : VK} (q : tI G W K i σ H Q) : tOp r (tI G W K a) (tI G W K b) σ H Q := by
  obtain ⟨H0, M0, A, env, E, q⟩ := q
  rw [he] at q
  refine ⟨H0, M0, A, env, E, (Sat.bind q).mono fun o e1 H1 _ s1 u1 E1 h1 x hx => ?_⟩
  refine ⟨H0, M0, A, e1, E1, (Sat.bind h1).mono fun o2 e2 H2 _ s2 u2 E2 h2 y hy => ?_⟩
  exact op_end hs E2 (hx.hold E1.aM s2 u2) hy h2
theorem e_op {e : Expr} {a b : IR} {i : IR} {r : R2} {f : D → D → Option D} {ta tb : TE} (h : PE X e (tOp r (tI G W X.K a) (tI G W X.K b))) (hs : OpS X.K r f)
    (he : ∀ env, ev G i env = (ev G a env).bind fun x e1 => (ev G b e1).bind fun y e2 => match rdO e2 x, rdO e2 y with
      | some p, some q => lift e2 (f p q)
      | _, _ => .bad) : PE X e (tI G W X.K i) := PE.by_ h fun σ H Q q => op_read hs he q
theorem e_bin {a b : Expr} {op : Operator} {op' : BOp} {a' b' : IR} {r : R2} {pos : Pos} (ho : OpR X (binaryOp op) r) (hs : OpS X.K r (binD op')) (ha : PE X a (tI G W X.K a')) (hb : PE X b (tI G W X.K b')) : PE X (.BinOp a op b pos) (tI G W X.K (.bin op' a' b')) :=
  e_op (ta := tI G W X.K a') (tb := tI G W X.K b') (pe_op ho ha hb) hs fun env => by first | (rw [ev]; done) | (rw [ev]; rfl)
theorem e_cmp {a b : Expr} {op : CmpOp} {op' : COp} {a' b' : IR} {r : R2} {pos : Pos} (ho : OpR X (compareOp op) r) (hs : CmS X.K r op') (ha : PE X a (tI G W X.K a')) (hb : PE X b (tI G W X.K b')) (hm : behindInMarks op b = false) : PE X (.Compare a [op] [b] pos) (tI G W X.K (.cmp op' a' b')) :=
  e_op (ta := tI G W X.K a') (tb := tI G W X.K b') (pe_cmpR ho ha hb hm) hs fun env => by first | (rw [ev]; done) | (rw [ev]; rfl)
theorem e_ix {a b : Expr} {a' b' : IR} {pos : Pos} (ha : PE X a (tI G W X.K a')) (hb : PE X b (tI G W X.K b')) (hp : PlainIx b) : PE X (.Subscript a b pos) (tI G W X.K (.ix a' b')) :=
  e_op (ta := tI G W X.K a') (tb := tI G W X.K b') (pe_ix (r := rOr (rIxL X.K) (rIxT X.K)) (ix_list.or ix_tup) ha hb hp) s_ix fun env => by first | (rw [ev]; done) | (rw [ev]; rfl)
/-- a value tested -/
theorem tru_end {K : PySem.W.Frag} {H0 H : Hp} {M0 A : AS} {env : Env} {σ : L2.St} {o : Opd} {x : V} {b : Bool} (E : EnvR K H0 M0 A env σ H) (hx : OpdR K M0 env σ H o x) (h : (rdO env o).bind truD = some b) : TruV K x H b := by
  cases e1 : rdO env o with
  | none => rw [e1] at h; cases h
  | some p =>
    rw [e1] at h
    exact truV_of (hx.rdT E e1).loose h
theorem e_and {a b : Expr} {rest : List Expr} {a' b' : IR} {pos : Pos} (ha : PE X a (tI G W X.K a')) (hb : PE X (.BoolOp .And (b :: rest) pos) (tI G W X.K b')) : PE X (.BoolOp .And (a :: b :: rest) pos) (tI G W X.K (.and_ a' b')) := PE.by_ (pe_andT ha hb) fun σ H Q q => by
  obtain ⟨H0, M0, A, env, E, q⟩ := q
  unfold ev at q
  refine ⟨H0, M0, A, env, E, (Sat.bind q).mono fun o e1 H1 _ s1 u1 E1 h1 x hx => ?_⟩
  cases e : (rdO e1 o).bind truD with
  | none => rw [e] at h1; exact h1.elim
  | some k =>
    rw [e] at h1
    refine ⟨k, tru_end E1 hx e, ?_⟩
    cases k with
    | true => exact ⟨H0, M0, A, e1, E1, h1⟩
    | false => exact h1 H1 Stp.refl Sub.refl E1 x hx
theorem e_not {a : Expr} {a' : IR} {pos : Pos} (ha : PE X a (tI G W X.K a')) : PE X (.UnaryOp .Not a pos) (tI G W X.K (.not_ a')) := PE.by_ (pe_notT ha) fun σ H Q q => by
  obtain ⟨H0, M0, A, env, E, q⟩ := q
  unfold ev at q
  refine ⟨H0, M0, A, env, E, (Sat.bind q).mono fun o e1 H1 _ s1 u1 E1 h1 x hx => ?_⟩
  cases e : (rdO e1 o).bind truD with
  | none => rw [e] at h1; exact h1.elim
  | some k =>
    rw [e] at h1
    exact ⟨k, tru_end E1 hx e, h1 H1 Stp.refl Sub.refl E1 _ (rep_bl (K := X.K) (H := H1) (M := MM M0 e1 σ) _)⟩
theorem e_neg {a : Expr} {a' : IR} {pos : Pos} (ha : PE X a (tI G W X.K a')) : PE X (.UnaryOp .USub a pos) (tI G W X.K (.neg a')) := PE.by_ (pe_un un_neg ha) fun σ H Q q => by
  obtain ⟨H0, M0, A, env, E, q⟩ := q
  unfold ev at q
  refine ⟨H0, M0, A, env, E, (Sat.bind q).mono fun o e1 H1 _ s1 u1 E1 h1 x hx => ?_⟩
  cases o with
  | pl i => exact h1.elim
  | val d =>
    cases d with
    | int i =>
      have hx' : Rep X.K H1 (MM M0 e1 σ) (.int i) x := hx
      unfold Rep at hx'
      exact ⟨i, hx', h1 H1 Stp.refl Sub.refl E1 _ (rep_int (K := X.K) (H := H1) (M := MM M0 e1 σ) _)⟩
    | _ => exact h1.elim
/-- tests -/
theorem t_truth {a : Expr} {a' : IR} (ha : PE X a (tI G W X.K a')) (he : ∀ whole, isTrue a X.env whole = (do let v ← whole; standAt a.pos; holding [v] (truthy v))) : PT X a (tIt G W X.K a') := PT.by_ (pt_truth ha he) fun σ H Q q => by
  obtain ⟨H0, M0, A, env, E, q⟩ := q
  unfold truR at q
  refine ⟨H0, M0, A, env, E, (Sat.bind q).mono fun o e1 H1 _ s1 u1 E1 h1 x hx => ?_⟩
  cases e : (rdO e1 o).bind truD with
  | none => rw [e] at h1; exact h1.elim
  | some k =>
    rw [e] at h1
    exact ⟨k, tru_end E1 hx e, h1 H1 Stp.refl Sub.refl E1⟩
end
end Mp
set_option maxHeartbeats 4000000
namespace Mp
open PySem L2
variable [TabsW]
theorem R.bind_assoc {α β γ : Type} (r : R α) (f : α → Env → R β) (g : β → Env → R γ) : (r.bind f).bind g = r.bind fun a e => (f a e).bind g := by cases r <;> rfl
theorem tru_not {G : Ctx} {a : IR} {env : Env} : truR (ev G (.not_ a) env) = (truR (ev G a env)).bind fun b e1 => .ok (!b) e1 := by
  rw [ev]
  unfold truR
  rw [R.bind_assoc, R.bind_assoc]
  congr 1
  funext x e1
  cases h : (rdO e1 x).bind truD <;> rfl
theorem tru_and {G : Ctx} {a b : IR} {env : Env} : truR (ev G (.and_ a b) env) = (truR (ev G a env)).bind fun c e1 => if c then truR (ev G b e1) else .ok false e1 := by
  rw [ev]
  unfold truR
  rw [R.bind_assoc, R.bind_assoc]
  congr 1
  funext x e1
  cases h : (rdO e1 x).bind truD with
  | none => rfl
  | some c =>
    cases c with
    | true => rfl
    | false =>
      show (match (rdO e1 x).bind truD with | some b => R.ok b e1 | none => R.bad) = _
      rw [h]; rfl
theorem tru_or {G : Ctx} {a b : IR} {env : Env} : truR (ev G (.or_ a b) env) = (truR (ev G a env)).bind fun c e1 => if c then .ok true e1 else truR (ev G b e1) := by
  rw [ev]
  unfold truR
  rw [R.bind_assoc, R.bind_assoc]
  congr 1
  funext x e1
  cases h : (rdO e1 x).bind truD with
  | none => rfl
  | some c =>
    cases c with
    | false => rfl
    | true =>
      show (match (rdO e1 x).bind truD with | some b => R.ok b e1 | none => R.bad) = _
      rw [h]; rfl
section
variable {X : Cx} {G : Ctx} {W : WX}
theorem t_not {a : Expr} {a' : IR} {pos : Pos} (ha : PT X a (tIt G W X.K a')) : PT X (.UnaryOp .Not a pos) (tIt G W X.K (.not_ a')) := PT.by_ (pt_not ha) fun σ H Q q => by
  obtain ⟨H0, M0, A, env, E, q⟩ := q
  rw [tru_not] at q
  exact ⟨H0, M0, A, env, E, (Sat.bind q).mono fun b e1 H1 _ s1 u1 E1 h1 => h1 H1 Stp.refl Sub.refl E1⟩
theorem w_and1 {a : Expr} {a' : IR} {pos : Pos} (ha : PT X a (tIt G W X.K a')) : PW X (.BoolOp .And [a] pos) (tIt G W X.K a') := pw_and1 ha
theorem w_or1 {a : Expr} {a' : IR} {pos : Pos} (ha : PT X a (tIt G W X.K a')) : PW X (.BoolOp .Or [a] pos) (tIt G W X.K a') := pw_or1 ha
theorem w_and {a b : Expr} {rest : List Expr} {a' b' : IR} {pos : Pos} (ha : PT X a (tIt G W X.K a')) (hb : PW X (.BoolOp .And (b :: rest) pos) (tIt G W X.K b')) : PW X (.BoolOp .And (a :: b :: rest) pos) (tIt G W X.K (.and_ a' b')) := PW.by_ (pw_and ha hb) fun σ H Q q => by
  obtain ⟨H0, M0, A, env, E, q⟩ := q
  rw [tru_and] at q
  refine ⟨H0, M0, A, env, E, (Sat.bind q).mono fun c e1 H1 _ s1 u1 E1 h1 => ?_⟩
  cases c with
  | true => exact ⟨H0, M0, A, e1, E1, h1⟩
  | false => exact h1 H1 Stp.refl Sub.refl E1
theorem w_or {a b : Expr} {rest : List Expr} {a' b' : IR} {pos : Pos} (ha : PT X a (tIt G W X.K a')) (hb : PW X (.BoolOp .Or (b :: rest) pos) (tIt G W X.K b')) : PW X (.BoolOp .Or (a :: b :: rest) pos) (tIt G W X.K (.or_ a' b')) := PW.by_ (pw_or ha hb) fun σ H Q q => by
  obtain ⟨H0, M0, A, env, E, q⟩ := q
  rw [tru_or] at q
  refine ⟨H0, M0, A, env, E, (Sat.bind q).mono fun c e1 H1 _ s1 u1 E1 h1 => ?_⟩
  cases c with
  | false => exact ⟨H0, M0, A, e1, E1, h1⟩
  | true => exact h1 H1 Stp.refl Sub.refl E1
/-- a value that is a truth, as a test -/
theorem tru_val {K : PySem.W.Frag} {i : IR} (hb : ∀ env o e1, ev G i env = .ok o e1 → ∃ k, o = .val (.bl k)) {σ : L2.St} {H : Hp} {Q : Bool → Hp → Prop} (q : tIt G W K i σ H Q) : tI G W K i σ H fun v H1 => ∃ k, v = .bl k ∧ Q k H1 := by
  obtain ⟨H0, M0, A, env, E, q⟩ := q
  refine ⟨H0, M0, A, env, E, ?_⟩
  cases e : ev G i env with
  | bad => rw [e] at q; exact q.elim
  | exc C f d e1 => rw [e] at q; exact q
  | ok o e1 =>
    obtain ⟨k, rfl⟩ := hb env o e1 e
    rw [e] at q
    intro H1 s1 u1 E1 v hv
    have hv' : Rep K H1 (MM M0 e1 σ) (.bl k) v := hv
    unfold Rep at hv'
    exact ⟨k, hv', q H1 s1 u1 E1⟩
theorem cmp_bool {op' : COp} {a' b' : IR} : ∀ env o e1, ev G (.cmp op' a' b') env = .ok o e1 → ∃ k, o = .val (.bl k) := fun env o e1 h => by
  rw [ev] at h
  cases h1 : ev G a' env with
  | bad => rw [h1] at h; cases h
  | exc C f d e => rw [h1] at h; cases h
  | ok x e2 =>
    rw [h1] at h
    have h : ((ev G b' e2).bind fun y e2 => match rdO e2 x, rdO e2 y with | some p, some q => lift e2 ((cmpD op' p q).map .bl) | _, _ => .bad) = .ok o e1 := h
    cases h2 : ev G b' e2 with
    | bad => rw [h2] at h; cases h
    | exc C f d e => rw [h2] at h; cases h
    | ok y e3 =>
      rw [h2] at h
      have h : (match rdO e3 x, rdO e3 y with | some p, some q => lift e3 ((cmpD op' p q).map .bl) | _, _ => .bad) = R.ok o e1 := h
      cases h3 : rdO e3 x with
      | none => rw [h3] at h; cases h
      | some p =>
        cases h4 : rdO e3 y with
        | none => rw [h3, h4] at h; cases h
        | some q =>
          rw [h3, h4] at h
          have h : lift e3 ((cmpD op' p q).map .bl) = R.ok o e1 := h
          cases h5 : cmpD op' p q with
          | none => rw [h5] at h; cases h
          | some k => rw [h5] at h; cases h; exact ⟨k, rfl⟩
theorem t_cmp {a b : Expr} {op : CmpOp} {op' : COp} {a' b' : IR} {r : R2} {pos : Pos} (ho : OpR X (compareOp op) r) (hs : CmS X.K r op') (ha : PE X a (tI G W X.K a')) (hb : PE X b (tI G W X.K b')) (hm : behindInMarks op b = false) : PT X (.Compare a [op] [b] pos) (tIt G W X.K (.cmp op' a' b')) :=
  PT.by_ (pt_cmpR ho ha hb hm) fun σ H Q q => op_read hs (fun env => by first | (rw [ev]; done) | (rw [ev]; rfl)) (tru_val cmp_bool q)
def starB : Expr → Bool
  | .Starred _ _ => true
  | _ => false
theorem star_cons {e : Expr} {es : List Expr} {env : PySem.Env} (h : starB e = false) : starEach (e :: es) env = (false, eval e env) :: starEach es env := by
  cases e <;> first | rfl | cases h
theorem star_none {pos : Pos} {env : PySem.Env} : ∀ {es : List Expr}, es.any starB = false → (backTo pos (starEach es env)).any (·.1) = false
  | [], _ => rfl
  | e :: es, h => by
    rw [List.any_cons, Bool.or_eq_false_iff] at h
    rw [star_cons h.1]
    show (false || (backTo pos (starEach es env)).any (·.1)) = false
    rw [star_none h.2] <;> rfl
theorem as_nil : PA X [] (tIs G W X.K []) := PA.by_ pa_nil fun σ H Q q => by
  obtain ⟨H0, M0, A, env, E, q⟩ := q
  rw [evs] at q
  exact q H Stp.refl Sub.refl E [] RepL.nil
theorem as_cons {e : Expr} {es : List Expr} {i : IR} {is : List IR} (ha : PE X e (tI G W X.K i)) (hr : PA X es (tIs G W X.K is)) (hs : starB e = false) : PA X (e :: es) (tIs G W X.K (i :: is)) := PA.by_ (pa_cons ha hr (star_cons hs)) fun σ H Q q => by
  obtain ⟨H0, M0, A, env, E, q⟩ := q
  rw [evs] at q
  unfold R.take at q
  rw [R.bind_assoc] at q
  refine ⟨H0, M0, A, env, E, (Sat.bind q).mono fun o e1 H1 _ s1 u1 E1 h1 x hx => ?_⟩
  cases e : takeO e1 o with
  | none => rw [e] at h1; exact h1.elim
  | some p =>
    obtain ⟨d, e2⟩ := p
    rw [e] at h1
    obtain ⟨E2, rd, u2⟩ := E1.take hx e
    have h2 : Sat X.K H0 M0 A W ((evs G is e2).bind fun ds e3 => .ok (d :: ds) e3) e1 σ H1 (fun ds e1 H1 => ∀ vs, RepL X.K H1 (MM M0 e1 σ) ds vs → Q vs H1) := h1
    have h3 : Sat X.K H0 M0 A W ((evs G is e2).bind fun ds e3 => .ok (d :: ds) e3) e2 σ H1 (fun ds e1 H1 => ∀ vs, RepL X.K H1 (MM M0 e1 σ) ds vs → Q vs H1) := h2.sub u2
    refine ⟨H0, M0, A, e2, E2, (Sat.bind h3).mono fun ds e3 H3 _ s3 u3 E3 h4 vs hv => ?_⟩
    exact h4 H3 Stp.refl Sub.refl E3 (x :: vs) (RepL.cons (hold rd E2.aM s3 u3) hv)
end
end Mp
set_option maxHeartbeats 4000000
namespace Mp
open PySem L2
variable [TabsW]
section
variable {X : Cx} {G : Ctx} {W : WX}
theorem ar_nil : PA X [] (tIr G W X.K []) := PA.by_ pa_nil fun σ H Q q => by
  obtain ⟨H0, M0, A, env, E, q⟩ := q
  rw [evr] at q
  exact q H Stp.refl Sub.refl E [] .nil
theorem ar_cons {e : Expr} {es : List Expr} {i : IR} {is : List IR} (ha : PE X e (tI G W X.K i)) (hr : PA X es (tIr G W X.K is)) (hs : starB e = false) : PA X (e :: es) (tIr G W X.K (i :: is)) := PA.by_ (pa_cons ha hr (star_cons hs)) fun σ H Q q => by
  obtain ⟨H0, M0, A, env, E, q⟩ := q
  rw [evr] at q
  refine ⟨H0, M0, A, env, E, (Sat.bind q).mono fun o e1 H1 _ s1 u1 E1 h1 x hx => ?_⟩
  refine ⟨H0, M0, A, e1, E1, (Sat.bind h1).mono fun os e2 H2 _ s2 u2 E2 h2 vs hv => ?_⟩
  exact h2 H2 Stp.refl Sub.refl E2 (x :: vs) (.cons (hx.hold E1.aM s2 u2) hv)
theorem aa_nil {io : Option Nat} {n : Nat} : PA X [] (tIa G W X.K io n []) := PA.by_ pa_nil fun σ H Q q => by
  obtain ⟨H0, M0, A, env, E, q⟩ := q
  rw [eva] at q
  exact q H Stp.refl Sub.refl E [] .nil
theorem aa_cons {e : Expr} {es : List Expr} {i : IR} {is : List IR} {io : Option Nat} {n : Nat} (ha : PE X e (tI G W X.K i)) (hr : PA X es (tIa G W X.K io (n + 1) is)) (hs : starB e = false) : PA X (e :: es) (tIa G W X.K io n (i :: is)) := PA.by_ (pa_cons ha hr (star_cons hs)) fun σ H Q q => by
  obtain ⟨H0, M0, A, env, E, q⟩ := q
  rw [eva] at q
  by_cases hio : io = some n
  · rw [if_pos hio] at q
    refine ⟨H0, M0, A, env, E, (Sat.bind q).mono fun o e1 H1 _ s1 u1 E1 h1 x hx => ?_⟩
    cases o with
    | val d => exact h1.elim
    | pl j =>
      refine ⟨H0, M0, A, e1, E1, (Sat.bind h1).mono fun p e2 H2 _ s2 u2 E2 h2 vs hv => ?_⟩
      exact h2 H2 Stp.refl Sub.refl E2 (x :: vs) (.cons (hx.hold E1.aM s2 u2) hv)
  · rw [if_neg hio] at q
    unfold R.take at q
    rw [R.bind_assoc] at q
    refine ⟨H0, M0, A, env, E, (Sat.bind q).mono fun o e1 H1 _ s1 u1 E1 h1 x hx => ?_⟩
    cases e : takeO e1 o with
    | none => rw [e] at h1; exact h1.elim
    | some p =>
      obtain ⟨d, e2⟩ := p
      rw [e] at h1
      obtain ⟨E2, rd, u2⟩ := E1.take hx e
      have h2 : Sat X.K H0 M0 A W ((eva G io (n + 1) is e2).bind fun p e3 => .ok (.val d :: p.1, p.2) e3) e1 σ H1 (fun p e1 H1 => ∀ vs, Paired (OpdR X.K M0 e1 σ H1) p.1 vs → Q vs H1) := h1
      refine ⟨H0, M0, A, e2, E2, (Sat.bind (h2.sub u2)).mono fun p e3 H3 _ s3 u3 E3 h4 vs hv => ?_⟩
      exact h4 H3 Stp.refl Sub.refl E3 (x :: vs) (.cons (show OpdR X.K M0 e3 σ H3 (.val d) x from hold rd E2.aM s3 u3) hv)
theorem po_none' : PO X none (tIo G W X.K none) := PO.by_ po_none fun σ H Q q => by
  obtain ⟨H0, M0, A, env, E, q⟩ := q
  rw [evo] at q
  exact q H Stp.refl Sub.refl E
theorem po_some' {e : Expr} {i : IR} (h : PE X e (tI G W X.K i)) : PO X (some e) (tIo G W X.K (some i)) := PO.by_ (po_some h) fun σ H Q q => by
  obtain ⟨H0, M0, A, env, E, q⟩ := q
  rw [evo] at q
  unfold R.rd at q
  rw [R.bind_assoc] at q
  refine ⟨H0, M0, A, env, E, (Sat.bind q).mono fun o e1 H1 _ s1 u1 E1 h1 x hx => ?_⟩
  cases e : rdO e1 o with
  | none => rw [e] at h1; exact h1.elim
  | some d =>
    rw [e] at h1
    cases d with
    | int k =>
      have := (hx.rdT E1 e).int
      exact ⟨k, this, h1 H1 Stp.refl Sub.refl E1⟩
    | _ => exact h1.elim
theorem e_tup {es : List Expr} {is : List IR} {k : Nat} {pos : Pos} (h : PA X es (tIs G W X.K is)) : PE X (.Tuple es k pos) (tI G W X.K (.tup is)) := PE.by_ (pe_tup h) fun σ H Q q => by
  obtain ⟨H0, M0, A, env, E, q⟩ := q
  rw [ev] at q
  refine ⟨H0, M0, A, env, E, (Sat.bind q).mono fun ds e1 H1 _ s1 u1 E1 h1 xs hx => ?_⟩
  have hs : sizeLine = 16777216 := sizeLine_eq
  by_cases hl : ds.length ≤ BIG
  · rw [if_pos hl] at h1
    refine ⟨by rw [← hx.length]; unfold BIG at hl; omega, fun p hp => ?_⟩
    exact h1 _ (Stp.new hp) Sub.refl (E1.new hp) _ (rep_newT hp (E1.fresh hp).1 hx)
  · rw [if_neg hl] at h1; exact h1.elim
theorem e_lst {es : List Expr} {is : List IR} {pos : Pos} (h : PA X es (tIs G W X.K is)) : PE X (.List es pos) (tI G W X.K (.lst is)) := PE.by_ (pe_lst h) fun σ H Q q => by
  obtain ⟨H0, M0, A, env, E, q⟩ := q
  rw [ev] at q
  refine ⟨H0, M0, A, env, E, (Sat.bind q).mono fun ds e1 H1 _ s1 u1 E1 h1 xs hx => ?_⟩
  have hs : sizeLine = 16777216 := sizeLine_eq
  by_cases hl : ds.length ≤ BIG
  · rw [if_pos hl] at h1
    refine ⟨by rw [← hx.length]; unfold BIG at hl; omega, fun p hp => ?_⟩
    exact h1 _ (Stp.new hp) Sub.refl (E1.new hp) _ (rep_new hp (E1.fresh hp).1 hx)
  · rw [if_neg hl] at h1; exact h1.elim
theorem RepL.cut {K : PySem.W.Frag} {H : Hp} {M : AS} {ds : List D} {xs : List V} (r : RepL K H M ds xs) (lo hi : Option Int) : RepL K H M (cutD ds lo hi) (cutV xs lo hi) := by
  unfold cutD cutV
  rw [r.length]
  exact (r.drop _).take _
theorem e_sl {a : Expr} {lo hi : Option Expr} {a' : IR} {lo' hi' : Option IR} {p2 pos : Pos} (ha : PE X a (tI G W X.K a')) (hl : PO X lo (tIo G W X.K lo')) (hh : PO X hi (tIo G W X.K hi')) : PE X (.Subscript a (.Slice lo hi none p2) pos) (tI G W X.K (.sl a' lo' hi')) := PE.by_ (pe_slice (SlR.or sl_list sl_tupA) ha hl hh) fun σ H Q q => by
  obtain ⟨H0, M0, A, env, E, q⟩ := q
  rw [ev] at q
  refine ⟨H0, M0, A, env, E, (Sat.bind q).mono fun o e1 H1 _ s1 u1 E1 h1 x hx => ?_⟩
  refine ⟨H0, M0, A, e1, E1, (Sat.bind h1).mono fun i e2 H2 _ s2 u2 E2 h2 => ?_⟩
  refine ⟨H0, M0, A, e2, E2, (Sat.bind h2).mono fun j e3 H3 _ s3 u3 E3 h3 => ?_⟩
  have hx3 := (hx.hold E1.aM s2 u2).hold E2.aM s3 u3
  cases e : rdO e3 o with
  | none => rw [e] at h3; exact h3.elim
  | some p =>
    rw [e] at h3
    cases p with
    | lst ds =>
      obtain ⟨b, xs, rfl, hr, rr⟩ := hx3.rdT E3 e
      exact .inl ⟨b, xs, rfl, hr, fun p hp => h3 _ (Stp.new hp) Sub.refl (E3.new hp) _ (rep_new hp (E3.fresh hp).1 (rr.cut i j))⟩
    | tup ds =>
      obtain ⟨b, xs, rfl, hr, rr, nM⟩ := hx3.rdT E3 e
      refine .inr ⟨b, xs, rfl, Rd.t hr, fun hw => ?_, fun _ p hp => h3 _ (Stp.new hp) Sub.refl (E3.new hp) _ (rep_newT hp (E3.fresh hp).1 (rr.cut i j))⟩
      have hl : xs.length = ds.length := rr.length.symm
      have hd : cutD ds i j = ds := by
        unfold cutD
        rw [← hl, hw.1, hw.2, List.drop_zero, Nat.sub_zero, hl, List.take_length]
      have h4 : ∀ v : V, OpdR X.K M0 e3 σ H3 (.val (.tup (cutD ds i j))) v → Q v H3 := h3 _ Stp.refl Sub.refl E3
      rw [hd] at h4
      refine h4 _ ?_
      unfold OpdR Rep
      exact ⟨b, xs, rfl, nM, hr, rr⟩
    | _ => exact h3.elim
theorem ops_rd {K : PySem.W.Frag} {H0 H : Hp} {M0 A : AS} {env : Env} {σ : L2.St} (E : EnvR K H0 M0 A env σ H) : ∀ {os : List Opd} {vs : List V} {ds : List D}, Paired (OpdR K M0 env σ H) os vs → os.mapM (rdO env) = some ds → Paired (RepT K H (MM M0 env σ)) ds vs
  | [], _, ds, .nil, e => by
    rw [List.mapM_nil] at e
    cases e; exact .nil
  | o :: os, _, ds, .cons r t, e => by
    rw [List.mapM_cons] at e
    cases e1 : rdO env o with
    | none => rw [e1] at e; cases e
    | some d =>
      cases e2 : os.mapM (rdO env) with
      | none => rw [e1, e2] at e; cases e
      | some ds' =>
        rw [e1, e2] at e
        cases e
        exact .cons (r.rdT E e1) (ops_rd E t e2)
theorem blt_read {K : PySem.W.Frag} {b : Blt} {is : List IR} {r : List V → Hp → VK → Prop} (hs : CaS K r (bltD b)) {σ : L2.St} {H : Hp} {Q : VK} (q : tI G W K (.blt b is) σ H Q) : tCB r (tIr G W K is) σ H Q := by
  obtain ⟨H0, M0, A, env, E, q⟩ := q
  rw [ev] at q
  refine ⟨H0, M0, A, env, E, (Sat.bind q).mono fun os e1 H1 _ s1 u1 E1 h1 xs hx => ?_⟩
  cases e : os.mapM (rdO e1) with
  | none => rw [e] at h1; exact h1.elim
  | some ds =>
    rw [e] at h1
    cases e2 : bltD b ds with
    | none => dsimp only at h1; rw [e2] at h1; exact h1.elim
    | some z =>
      dsimp only at h1
      rw [e2] at h1
      exact hs (MM M0 e1 σ) xs H1 ds z Q (ops_rd E1 hx e) (fun a ha => (E1.fresh ha).1) e2 fun v H' st rv => h1 H' st.no Sub.refl (E1.keep st) v rv
theorem e_bltF {e : Expr} {es : List Expr} {is : List IR} {b : Blt} {r : List V → Hp → VK → Prop} {x : Str} {id : String} {p pos : Pos} (hc : CallR X (.builtin id) r) (hs : CaS X.K r (bltD b)) (hg : Gl X x) (hm : X.mg x = none) (hv : bootBuiltins x = some (.builtin id))
    (ha : PA X (e :: es) (tIr G W X.K is)) (h1 : (e :: es).any starB = false) (hn : x ≠ "__name__") (hd : (x == ("__debug__" : Str)) = false) : PE X (.Call (.Name x p) (e :: es) [] pos) (tI G W X.K (.blt b is)) := by
  rw [List.any_cons, Bool.or_eq_false_iff] at h1
  exact PE.by_ (pe_callB hc hg hm hv ha hn hd (star_cons h1.1) (star_none h1.2)) fun σ H Q q => blt_read hs q
theorem e_bltT {e : Expr} {es : List Expr} {is : List IR} {b : Blt} {r : List V → Hp → VK → Prop} {x : Str} {id : String} {p pos : Pos} (hc : CallR X (.type id) r) (hs : CaS X.K r (bltD b)) (hg : Gl X x) (hm : X.mg x = none) (hv : bootBuiltins x = some (.type id))
    (ha : PA X (e :: es) (tIr G W X.K is)) (h1 : (e :: es).any starB = false) (hn : x ≠ "__name__") (hd : (x == ("__debug__" : Str)) = false) : PE X (.Call (.Name x p) (e :: es) [] pos) (tI G W X.K (.blt b is)) := by
  rw [List.any_cons, Bool.or_eq_false_iff] at h1
  exact PE.by_ (pe_callTy hc hg hm hv ha hn hd (star_cons h1.1) (star_none h1.2)) fun σ H Q q => blt_read hs q
end
end Mp
set_option maxHeartbeats 4000000
namespace Mp
open PySem L2
variable [TabsW]
/-- the slots handed over for change: what eva's second part says of the first -/
def IoOps (io : Option Nat) (n : Nat) (os : List Opd) (is : List Nat) : Prop :=
  (∀ (m i : Nat), os[m]? = some (.pl i) → io = some (n + m)) ∧ (∀ (m : Nat), io = some (n + m) → m < os.length → ∃ i, os[m]? = some (.pl i) ∧ is = [i]) ∧ (∀ i ∈ is, ∃ m, io = some (n + m) ∧ m < os.length)
theorem eva_ops (G : Ctx) (io : Option Nat) : ∀ (es : List IR) (n : Nat) (env : Env) (p : List Opd × List Nat) (e1 : Env), eva G io n es env = .ok p e1 → IoOps io n p.1 p.2 ∧ ((∀ m, io = some m → m < n) → p.2 = [])
  | [], n, env, p, e1, h => by
    rw [eva] at h
    cases h
    exact ⟨⟨fun m i e => by simp at e, fun m _ hl => by simp at hl, fun i hi => by simp at hi⟩, fun _ => rfl⟩
  | e :: es, n, env, p, e1, h => by
    rw [eva] at h
    by_cases hio : io = some n
    · rw [if_pos hio] at h
      cases h1 : ev G e env with
      | bad => rw [h1] at h; cases h
      | exc C f d e2 => rw [h1] at h; cases h
      | ok o e2 =>
        rw [h1] at h
        cases o with
        | val d => cases h
        | pl i =>
          have h : ((eva G io (n + 1) es e2).bind fun p e2 => R.ok (Opd.pl i :: p.1, i :: p.2) e2) = .ok p e1 := h
          cases h2 : eva G io (n + 1) es e2 with
          | bad => rw [h2] at h; cases h
          | exc C f d e3 => rw [h2] at h; cases h
          | ok q e3 =>
            rw [h2] at h
            cases h
            obtain ⟨⟨a, b, c⟩, d⟩ := eva_ops G io es (n + 1) e2 q _ h2
            have hq : q.2 = [] := d fun m hm => by rw [hio] at hm; cases hm; omega
            refine ⟨⟨fun m j e => ?_, fun m hm hl => ?_, fun j hj => ⟨0, hio, by simp⟩⟩, fun z => ?_⟩
            · cases m with
              | zero => exact hio
              | succ m =>
                have := a m j (by simpa using e)
                rw [this]; congr 1; omega
            · have : m = 0 := by rw [hio] at hm; injection hm with hm; omega
              subst this
              exact ⟨i, rfl, by rw [hq]⟩
            · have := z n hio; omega
    · rw [if_neg hio] at h
      cases h1 : (ev G e env).take with
      | bad => rw [h1] at h; cases h
      | exc C f d e2 => rw [h1] at h; cases h
      | ok d e2 =>
        rw [h1] at h
        have h : ((eva G io (n + 1) es e2).bind fun p e2 => R.ok (Opd.val d :: p.1, p.2) e2) = .ok p e1 := h
        cases h2 : eva G io (n + 1) es e2 with
        | bad => rw [h2] at h; cases h
        | exc C f d e3 => rw [h2] at h; cases h
        | ok q e3 =>
          rw [h2] at h
          cases h
          obtain ⟨⟨a, b, c⟩, d'⟩ := eva_ops G io es (n + 1) e2 q _ h2
          refine ⟨⟨fun m j e => ?_, fun m hm hl => ?_, fun j hj => let ⟨m, a1, a2⟩ := c j hj; ⟨m + 1, by rw [a1]; congr 1; omega, by simpa using a2⟩⟩, fun z => d' fun m hm => by have := z m hm; omega⟩
          · cases m with
            | zero => simp at e
            | succ m =>
              have := a m j (by simpa using e)
              rw [this]; congr 1; omega
          · cases m with
            | zero => exact absurd hm hio
            | succ m =>
              have hl' : m < q.1.length := by simpa using hl
              obtain ⟨i, e1, e2⟩ := b m (by rw [hm]; congr 1; omega) hl'
              exact ⟨i, by simpa using e1, e2⟩
theorem Paired.get {α β : Type} {F : α → β → Prop} : ∀ {xs : List α} {ys : List β} {i : Nat} {x : α} {y : β}, Paired F xs ys → xs[i]? = some x → ys[i]? = some y → F x y
  | _, _, _, _, _, .nil, h, _ => by simp at h
  | _, _, 0, _, _, .cons r _, h1, h2 => by simp at h1 h2; subst h1; subst h2; exact r
  | _, _, i + 1, _, _, .cons _ t, h1, h2 => Paired.get (i := i) t (by simpa using h1) (by simpa using h2)
theorem mapM_get {env : Env} : ∀ {os : List Opd} {ds : List D} {i : Nat} {d : D}, os.mapM (rdO env) = some ds → ds[i]? = some d → ∃ o, os[i]? = some o ∧ rdO env o = some d
  | [], ds, i, d, h, e => by
    rw [List.mapM_nil] at h; cases h; simp at e
  | o :: os, ds, i, d, h, e => by
    rw [List.mapM_cons] at h
    cases e1 : rdO env o with
    | none => rw [e1] at h; cases h
    | some d' =>
      cases e2 : os.mapM (rdO env) with
      | none => rw [e1, e2] at h; cases h
      | some ds' =>
        rw [e1, e2] at h
        cases h
        cases i with
        | zero => simp at e; subst e; exact ⟨o, rfl, e1⟩
        | succ i =>
          obtain ⟨o', a, b⟩ := mapM_get (i := i) e2 (by simpa using e)
          exact ⟨o', by simpa using a, b⟩
theorem mapM_len {env : Env} : ∀ {os : List Opd} {ds : List D}, os.mapM (rdO env) = some ds → ds.length = os.length
  | [], ds, h => by rw [List.mapM_nil] at h; cases h; rfl
  | o :: os, ds, h => by
    rw [List.mapM_cons] at h
    cases e1 : rdO env o with
    | none => rw [e1] at h; cases h
    | some d' =>
      cases e2 : os.mapM (rdO env) with
      | none => rw [e1, e2] at h; cases h
      | some ds' =>
        rw [e1, e2] at h
        cases h
        simp [mapM_len e2]
section
variable {X : Cx} {G : Ctx} {W : WX}
/-- a call's end: what the def promises is what frR says -/
theorem call_end {K : PySem.W.Frag} {H0 H : Hp} {M0 A : AS} {env : Env} {σ : L2.St} {Q : VK} {n : Nat} {io : Option Nat} {F : List D → FR} {os : List Opd} {is : List Nat} {ds : List D} {vs : List V} (E : EnvR K H0 M0 A env σ H) (hv : Paired (OpdR K M0 env σ H) os vs) (hn : vs.length = n)
    (hi : IoOps io 0 os is) (hm : os.mapM (rdO env) = some ds) (h : Sat K H0 M0 A W (frR env io is (F ds)) env σ H fun o e1 H1 => ∀ v, OpdR K M0 e1 σ H1 o v → Q v H1) : spF K n io F vs H Q (WE W σ) := by
  have lv : os.length = vs.length := Paired.length hv
  -- no one is handed over
  have none_case : io = none → spF K n io F vs H Q (WE W σ) := fun z => by
    subst z
    refine ⟨hn, MM M0 env σ, ds, E.mok, ⟨by rw [mapM_len hm, lv], fun i d v e1 e2 => ⟨fun _ => ?_, fun z => nomatch z⟩⟩, ?_⟩
    · obtain ⟨o, o1, o2⟩ := mapM_get hm e1
      have r := Paired.get hv o1 e2
      cases o with
      | pl j => exact nomatch hi.1 i j o1
      | val d' => cases o2; exact r
    · cases e : F ds with
      | bad => rw [e] at h; exact h.elim
      | ok d out =>
        rw [e] at h
        intro v H' st _ rv
        have st' : Stp NoA H H' := st.weak fun a ⟨i, z, _⟩ => nomatch z
        exact h H' st'.no Sub.refl (E.keep st') v rv
      | exc C f d out =>
        rw [e] at h
        intro dd v H' st _ hd rv
        have st' : Stp NoA H H' := st.weak fun a ⟨i, z, _⟩ => nomatch z
        exact h dd v H' st'.no Sub.refl (E.keep st') hd rv
  cases hio : io with
  | none => rw [hio] at none_case; exact none_case rfl
  | some m =>
    subst hio
    -- the slot that is handed over
    have slot : ∃ i, is = [i] := by
      cases e : F ds with
      | bad => rw [e] at h; exact h.elim
      | ok d out =>
        rw [e] at h
        match is, h with
        | [i], _ => exact ⟨i, rfl⟩
        | [], h => exact h.elim
        | _ :: _ :: _, h => exact h.elim
      | exc C f d out =>
        rw [e] at h
        match is, h with
        | [i], _ => exact ⟨i, rfl⟩
        | [], h => exact h.elim
        | _ :: _ :: _, h => exact h.elim
    obtain ⟨i, rfl⟩ := slot
    by_cases hml : m < os.length
    · obtain ⟨i', om, ei⟩ := hi.2.1 m (by rw [Nat.zero_add]) hml
      cases ei
      obtain ⟨v, hvm⟩ : ∃ v, vs[m]? = some v := ⟨vs[m]'(by omega), List.getElem?_eq_getElem (by omega)⟩
      obtain ⟨sv, c, hc⟩ := Paired.get hv om hvm
      have hcell : cellAt env i = some c := by unfold cellAt; rw [hc]; rfl
      -- its cell is ours or handed to us
      have key : ∃ (a : Addr) (xs : List V) (es : List D), v = .ref a ∧ MM M0 env σ a ∧ H a = some (.lst xs) ∧ RepL K H (MM M0 env σ) es xs ∧ content c = .lst es ∧
          (∀ (out : List D) (ys : List V) (H' : Hp), Stp (fun x => x = a) H H' → H' a = some (.lst ys) → RepL K H' (MM M0 env σ) out ys → ∃ env', EnvR K H0 M0 A env' σ H' ∧ Sub σ env env' ∧ MM M0 env' σ = MM M0 env σ ∧ WW A env σ a ∧
            (∀ d, frR env (some m) [i] (.ok d out) = .ok (.val d) env') ∧ ∀ C f d, frR env (some m) [i] (.exc C f d out) = .exc C f d env') := by
        cases c with
        | dat d =>
          exfalso
          cases e : F ds with
          | bad => rw [e] at h; exact h.elim
          | ok d' out => rw [e] at h; unfold frR at h; dsimp only at h; rw [hcell] at h; exact h.elim
          | exc C f d' out => rw [e] at h; unfold frR at h; dsimp only at h; rw [hcell] at h; exact h.elim
        | slf C ns es => exact absurd hc (fun q => E.slf i C ns es q)
        | own es =>
          obtain ⟨a, xs, s, q, l, nm, h0⟩ := E.own i es hc
          rw [sv] at s; cases s
          refine ⟨a, xs, es, rfl, .inr ⟨i, es, hc, sv⟩, q, l, rfl, fun out ys H' st h' rr => ?_⟩
          obtain ⟨E', u, eM⟩ := E.setOwn hc sv st h' rr
          refine ⟨_, E', u, eM, .inr ⟨i, es, hc, sv⟩, fun d => ?_, fun C f d => ?_⟩
          · unfold frR; dsimp only; rw [hcell]
          · unfold frR; dsimp only; rw [hcell]
        | io es =>
          obtain ⟨a, xs, s, Aa, q, l⟩ := E.io i es hc
          rw [sv] at s; cases s
          refine ⟨a, xs, es, rfl, .inl (E.aM a Aa), q, l, rfl, fun out ys H' st h' rr => ?_⟩
          obtain ⟨E', u, eM⟩ := E.setIo hc sv st h' rr
          refine ⟨_, E', u, eM, .inl Aa, fun d => ?_, fun C f d => ?_⟩
          · unfold frR; dsimp only; rw [hcell]
          · unfold frR; dsimp only; rw [hcell]
      obtain ⟨a, xs, es, rfl, Ma, ha, l, hcont, go⟩ := key
      refine ⟨hn, MM M0 env σ, ds, E.mok, ⟨by rw [mapM_len hm, lv], fun j d w e1 e2 => ?_⟩, ?_⟩
      · obtain ⟨o, o1, o2⟩ := mapM_get hm e1
        have r := Paired.get hv o1 e2
        refine ⟨fun z => ?_, fun z => ?_⟩
        · cases o with
          | pl k =>
            have := hi.1 j k o1
            rw [Nat.zero_add] at this
            exact absurd this z
          | val d' => cases o2; exact r
        · cases z
          rw [om] at o1; cases o1
          rw [hvm] at e2; cases e2
          have : (cellAt env i).map content = some d := o2
          rw [hcell] at this
          rw [Option.map_some, hcont] at this
          cases this
          exact ⟨a, xs, es, rfl, rfl, Ma, ha, l⟩
      · have ioA : ∀ x, IoA (some m) vs x → x = a := fun x ⟨j, z, q⟩ => by
          cases z; rw [hvm] at q; cases q; rfl
        cases e : F ds with
        | bad => rw [e] at h; exact h.elim
        | ok d out =>
          rw [e] at h
          intro v H' st ot rv
          obtain ⟨a', ys, q1, q2, q3⟩ := ot m rfl
          rw [hvm] at q1; cases q1
          obtain ⟨env', E', u, eM, wa, f1, _⟩ := go out ys H' (st.weak ioA) q2 q3
          rw [f1] at h
          exact h H' (st.weak fun x z => ioA x z ▸ wa) u E' v (by show Rep K H' (MM M0 env' σ) d v; rw [eM]; exact rv)
        | exc C f d out =>
          rw [e] at h
          intro dd v H' st ot hd rv
          obtain ⟨a', ys, q1, q2, q3⟩ := ot m rfl
          rw [hvm] at q1; cases q1
          obtain ⟨env', E', u, eM, wa, _, f2⟩ := go out ys H' (st.weak ioA) q2 q3
          rw [f2] at h
          exact h dd v H' (st.weak fun x z => ioA x z ▸ wa) u E' hd (by rw [eM]; exact rv)
    · exfalso
      obtain ⟨m', a1, a2⟩ := hi.2.2 i (by simp)
      rw [Nat.zero_add] at a1
      cases a1
      exact hml a2
end
end Mp
set_option maxHeartbeats 4000000
namespace Mp
open PySem L2 PyProof.Rows
/-- whether it is known that no repr is under way -/
class GdW where
  gd : Prop
variable [TabsW] [GdW]
/-- room for so many calls, where no repr is under way -/
structure Room (k : Nat) (A : Around) : Prop where
  r : L2.Room k A
  g : GdW.gd → A.guards = some []
theorem Room.mono {j k : Nat} {A : Around} (h : Room k A) (l : j ≤ k) : Room j A := ⟨h.r.mono l, h.g⟩
theorem Room.make {k : Nat} {A : Around} (h : Room (k + 1) A) (C : Addr) (us : List Value) (kw : List (Str × Value)) : Room k (A.under (.builtin "type.__call__" ⟨.ref C :: us, kw⟩)) := by
  refine ⟨h.r.make C us kw, fun z => ?_⟩
  have e : Code.guards (.builtin "type.__call__" ⟨.ref C :: us, kw⟩) = [] := rfl
  show pushGuards (Code.guards (.builtin "type.__call__" ⟨.ref C :: us, kw⟩)) A.guards = some []
  rw [e, h.g z]
  rfl
/-- what a def is worth where no repr is under way -/
structure FnOk (P : Program) (w : World) (K : PySem.W.Frag) (mg : Str → Option Value) (base : Heap) (CX : CXT) (k : Nat) (f : Addr) (fd : FuncData) (ps : List Str) (sp : Sp) : Prop where
  len : ∀ vs H Q E, sp vs H Q E → vs.length = ps.length
  go : ∀ (A : Around) (out : List PySem.Env) (s : Shared) (H : Hp) (args : Args) (us : List Value) (vs : List V) (Q : VK) (E : XK), Room k A → Env0 P w K mg base A out s H → BindsTo s fd args (ps.zip us) → Vals vs us → sp vs H Q E → codeAny (model P w) A (.call (.ref f) args) (CR CX out P w H s Q E) s
/-- THE RULE for a def by its text -/
theorem fn_text {CX : CXT} {P : Program} {w : World} {K : PySem.W.Frag} {mg : Str → Option Value} {base : Heap} {k : Nat} {f : Addr} {nm qn : Str} {par : Arguments} {bd : List Stmt} {sc : Scope} {dV kV doc pm cdv ct oc : Value} {an od : Option Addr} {osl : Array (Option Value)} {N ps : List Str} {sp : Sp}
    (lk : K.lookup f = some ⟨oc, od, .func (PySem.W.fnOf nm qn par bd sc dV kV doc pm an cdv ct), osl⟩) (hcd : PySem.W.codeIn K cdv qn = true) (S : FnScope N ps sc) (len : ∀ vs H Q E, sp vs H Q E → vs.length = ps.length)
    (bod : ∀ (A : Around) (out : List PySem.Env) (s : Shared) (H : Hp) (vs : List V) (Q : VK) (E : XK), Room k (A.deeper (envOfC qn sc s.heap.objs.size f cdv)) → sp vs H Q E → ∃ t, PSs (cxOf CX P w K mg base N qn sc f cdv A out s H E) bd t ∧ t { nx := fun _ H' => Q .non H', rt := Q } (L2.start N vs) H) :
    FnOk P w K mg base CX (k + 1) f (PySem.W.fnOf nm qn par bd sc dV kV doc pm an cdv ct) ps sp :=
  ⟨len, fun A out s H args us vs Q E hr e0 hb r h => LamX.run_ofS lk hcd S hr.r e0 hb r (len _ _ _ _ h) fun hr' => bod A out s H vs Q E ⟨hr', hr.g⟩ h⟩
theorem fun_okX {P : Program} {w : World} {K : PySem.W.Frag} {mg : Str → Option Value} {base : Heap} {x qn : Str} {st : Stmt} {f : Addr} {fd : FuncData} {N ps : List Str} {k : Nat} {sp : Sp} (F : Fun K x qn st f fd) (S : FnScope N ps (defScope st)) (len : ∀ vs H Q E, sp vs H Q E → vs.length = ps.length)
    (bod : ∀ (cdv : Value) (A : Around) (out : List PySem.Env) (s : Shared) (H : Hp) (vs : List V) (Q : VK) (E : XK), Room k (A.deeper (envOfC qn (defScope st) s.heap.objs.size f cdv)) → sp vs H Q E →
      ∃ t, PSs (cxOf (L2.CX P w) P w K mg base N qn (defScope st) f cdv A out s H E) (defBody st) t ∧ t { nx := fun _ H' => Q .non H', rt := Q } (L2.start N vs) H) : FnOk P w K mg base (L2.CX P w) (k + 1) f fd ps sp := by
  obtain ⟨oc, od, kV, doc, pm, an, cdv, ct, osl, rfl, lk, hcd⟩ := F.ex
  exact fn_text lk hcd S len fun A out s H vs Q E hr h => bod cdv A out s H vs Q E hr h
theorem fund_ok {CX : CXT} {P : Program} {w : World} {K : PySem.W.Frag} {mg : Str → Option Value} {base : Heap} {x qn : Str} {par : Arguments} {bd : List Stmt} {sc : Scope} {dvs : List V} {kws : List (Str × V)} {f : Addr} {fd : FuncData} {N ps : List Str} {k : Nat} {sp : Sp} (F : FunD K x qn par bd sc dvs kws f fd) (S : FnScope N ps sc) (len : ∀ vs H Q E, sp vs H Q E → vs.length = ps.length)
    (bod : ∀ (cdv : Value) (A : Around) (out : List PySem.Env) (s : Shared) (H : Hp) (vs : List V) (Q : VK) (E : XK), Room k (A.deeper (envOfC qn sc s.heap.objs.size f cdv)) → sp vs H Q E →
      ∃ t, PSs (cxOf CX P w K mg base N qn sc f cdv A out s H E) bd t ∧ t { nx := fun _ H' => Q .non H', rt := Q } (L2.start N vs) H) : FnOk P w K mg base CX (k + 1) f fd ps sp := by
  obtain ⟨oc, od, dV, kV, doc, pm, an, cdv, ct, osl, rfl, lk, hcd, _, _⟩ := F.ex
  exact fn_text lk hcd S len fun A out s H vs Q E hr h => bod cdv A out s H vs Q E hr h
section
variable {X : Cx} {CX : CXT} {k : Nat} {f : Addr} {fd : FuncData} {ps : List Str} {sp : Sp} {ds : List Value} {dvs : List V} {E : L2.St → XK}
theorem run_fnSD {pins : List (Addr × Obj)} {τ : L2.St} {H : Hp} {s : Shared} {Q : VK} {us : List Value} {vs : List V} (F : FnOk X.prog X.w X.K X.mg X.base CX k f fd ps sp) (room : Room k X.A) (bi : Binds X.K fd ps ds) (dv : Vals dvs ds) (pa : PassesAt CX X τ (E τ))
    (I : Inv X pins τ H s) (r : Vals vs us) (want : sp (vs ++ dvs) H Q (E τ)) : wpAny (model X.prog X.w) X.A (call (.ref f) us) (EP X pins τ Q) X.xe s := by
  have rr : Vals (vs ++ dvs) (us ++ ds) := r.append dv
  have many : (us ++ ds).length = ps.length := rr.length.symm.trans (F.len _ _ _ _ want)
  refine wpAny_call (codeAny_mono (F.go _ X.stack _ _ ⟨us, []⟩ _ _ _ (E τ) room I.env0 (bi _ us I.kIn many) rr want) fun res s' got => ?_)
  match res, got with
  | .error e, got => exact pa pins _ _ e s' I got
  | .ok (.ret u), got => exact I.after got
  | .ok .next, got => exact got.elim
  | .ok .brk, got => exact got.elim
  | .ok .cont, got => exact got.elim
theorem pe_callSD {x : Str} {e : Expr} {es : List Expr} {t : TA} {p pos : Pos} (F : FnOk X.prog X.w X.K X.mg X.base CX k f fd ps sp) (room : Room k X.A) (hg : Gl X x) (hm : X.mg x = some (.ref f)) (hk : PySem.W.keepIn X.K (.ref f) = true) (bi : Binds X.K fd ps ds) (dv : Vals dvs ds) (pa : ∀ τ, PassesAt CX X τ (E τ))
    (ha : PA X (e :: es) t) (dbg : (x == ("__debug__" : Str)) = false) (h1 : starEach (e :: es) X.env = (false, eval e X.env) :: starEach es X.env) (h2 : (backTo pos (starEach es X.env)).any (·.1) = false) : PE X (.Call (.Name x p) (e :: es) [] pos) (tCallSD sp dvs E t) := by
  refine ⟨fun pins s τ H Q I h => wpAny_Call_Name_kw (ld_glob I hg hm ?_ dbg)⟩
  exact PySem.W.callWith_K (h₀ := X.base) I.ok.mod.kin hk (thn (ha.run pos pins s τ H _ I h) fun us s1 ⟨vs, H1, I1, r, q⟩ => ⟨I1.kIn, run_fnSD F room bi dv (pa τ) I1 r q⟩) h1 h2
end
/-- a def that may be called by a name: n arguments written, more by defaults -/
structure FnF (P : Program) (w : World) (K : PySem.W.Frag) (mg : Str → Option Value) (base : Heap) (k : Nat) (x : Str) (f : Fn) : Prop where
  dbg : (x == ("__debug__" : Str)) = false
  ex : ∃ (a : Addr) (fd : FuncData) (ps : List Str) (sp : Sp) (ds : List Value) (dvs : List V), mg x = some (.ref a) ∧ PySem.W.keepIn K (.ref a) = true ∧ FnOk P w K mg base (L2.CX P w) k a fd ps sp ∧ Binds K fd ps ds ∧ Vals dvs ds ∧
    ∀ vs H Q E, spF K f.n f.io f.sem vs H Q E → sp (vs ++ dvs) H Q E
def spMk (K : PySem.W.Frag) (C : Str) (n : Nat) (ns : List Str) (F : List D → FR) : Sp := fun vs H Q E => ∃ (M : AS) (ds : List D) (a dx : Addr) (rest : List V), MOk M H ∧ vs = .ref a :: rest ∧ rest.length = n ∧ H a = some (.ins (clsAt K C) dx []) ∧ ¬ M a ∧ RepL K H (fun b => M b ∨ b = a) ds rest ∧
  (match F ds with
   | .ok _ out => ∀ (xs : List V) H', Stp (fun x => x = a) H H' → H' a = some (.ins (clsAt K C) dx (ns.zip xs)) → ns.length = xs.length → RepL K H' M out xs → Q .non H'
   | .exc C' f d _ => ∀ dd v H', Stp (fun x => x = a) H H' → H' dd = some (.xd [(f, v)]) → Rep K H' M d v → E (.ref (clsAt K C')) (some dd) H'
   | .bad => False)
structure MkF (P : Program) (w : World) (K : PySem.W.Frag) (mg : Str → Option Value) (base : Heap) (k : Nat) (x : Str) (m : Mkr) : Prop where
  dbg : (x == ("__debug__" : Str)) = false
  ex : ∃ (a : Addr) (fd : FuncData) (ps : List Str) (sp : Sp) (ds : List Value) (dvs : List V), mg x = some (.ref (clsAt K m.C)) ∧ Mk K (clsAt K m.C) a ∧ FnOk P w K mg base (L2.CX P w) k a fd ps sp ∧ Binds K fd ps ds ∧ Vals dvs ds ∧
    ∀ v vs H Q E, spMk K m.C m.n m.ns m.sem (v :: vs) H Q E → sp (v :: (vs ++ dvs)) H Q E
structure MtF (P : Program) (w : World) (K : PySem.W.Frag) (mg : Str → Option Value) (base : Heap) (k : Nat) (m : Mt) : Prop where
  cl : Cls K (clsAt K m.C)
  ex : ∃ (a : Addr) (fd : FuncData) (ps : List Str) (sp : Sp) (ds : List Value) (dvs : List V), Meth K (clsAt K m.C) m.name a ∧ FnOk P w K mg base (L2.CX P w) k a fd ps sp ∧ Binds K fd ps ds ∧ Vals dvs ds ∧
    ∀ vs H Q E, spF K m.n none m.sem vs H Q E → sp (vs ++ dvs) H Q E
section
variable {X : Cx} {G : Ctx} {W : WX}
theorem call_read {K : PySem.W.Frag} {j : Nat} {f : Fn} {is : List IR} {sp : Sp} {dvs : List V} (hj : G.fns[j]? = some f) (hs : ∀ vs H Q E, spF K f.n f.io f.sem vs H Q E → sp (vs ++ dvs) H Q E) {σ : L2.St} {H : Hp} {Q : VK} (q : tI G W K (.call j is) σ H Q) :
    tCallSD sp dvs (WE W) (tIa G W K f.io 0 is) σ H Q := by
  obtain ⟨H0, M0, A, env, E, q⟩ := q
  rw [ev, hj] at q
  dsimp only at q
  by_cases hl : is.length = f.n
  · rw [if_pos hl] at q
    refine ⟨H0, M0, A, env, E, (Sat.bind q).mono fun p e1 H1 he s1 u1 E1 h1 vs hv => ?_⟩
    refine hs vs H1 Q _ ?_
    obtain ⟨hi, _⟩ := eva_ops G f.io is 0 env p e1 he
    cases e : p.1.mapM (rdO e1) with
    | none => rw [e] at h1; exact h1.elim
    | some ds =>
      rw [e] at h1
      have ln : vs.length = f.n := by
        rw [← Paired.length hv]
        have := eva_len G f.io is 0 env p e1 he
        rw [this]; exact hl
      exact call_end E1 hv ln hi e h1
  · rw [if_neg hl] at q
    exact q.elim
where
  eva_len (G : Ctx) (io : Option Nat) : ∀ (es : List IR) (n : Nat) (env : Env) (p : List Opd × List Nat) (e1 : Env), eva G io n es env = .ok p e1 → p.1.length = es.length
  | [], n, env, p, e1, h => by rw [eva] at h; cases h; rfl
  | e :: es, n, env, p, e1, h => by
    rw [eva] at h
    by_cases hio : io = some n
    · rw [if_pos hio] at h
      cases h1 : ev G e env with
      | bad => rw [h1] at h; cases h
      | exc C f d e2 => rw [h1] at h; cases h
      | ok o e2 =>
        rw [h1] at h
        cases o with
        | val d => cases h
        | pl i =>
          have h : ((eva G io (n + 1) es e2).bind fun p e2 => R.ok (Opd.pl i :: p.1, i :: p.2) e2) = .ok p e1 := h
          cases h2 : eva G io (n + 1) es e2 with
          | bad => rw [h2] at h; cases h
          | exc C f d e3 => rw [h2] at h; cases h
          | ok q e3 =>
            rw [h2] at h
            cases h
            simp [eva_len G io es (n + 1) e2 q _ h2]
    · rw [if_neg hio] at h
      cases h1 : (ev G e env).take with
      | bad => rw [h1] at h; cases h
      | exc C f d e2 => rw [h1] at h; cases h
      | ok d e2 =>
        rw [h1] at h
        have h : ((eva G io (n + 1) es e2).bind fun p e2 => R.ok (Opd.val d :: p.1, p.2) e2) = .ok p e1 := h
        cases h2 : eva G io (n + 1) es e2 with
        | bad => rw [h2] at h; cases h
        | exc C f d e3 => rw [h2] at h; cases h
        | ok q e3 =>
          rw [h2] at h
          cases h
          simp [eva_len G io es (n + 1) e2 q _ h2]
theorem e_call {k j : Nat} {f : Fn} {x : Str} {e : Expr} {es : List Expr} {is : List IR} {p pos : Pos} (F : FnF X.prog X.w X.K X.mg X.base k x f) (hj : G.fns[j]? = some f) (hr : Room k X.A) (tk : Takes X W) (hg : Gl X x) (ha : PA X (e :: es) (tIa G W X.K f.io 0 is)) (h1 : (e :: es).any starB = false) :
    PE X (.Call (.Name x p) (e :: es) [] pos) (tI G W X.K (.call j is)) := by
  rw [List.any_cons, Bool.or_eq_false_iff] at h1
  obtain ⟨a, fd, ps, sp, ds, dvs, hm, hk, ok, hb, hd, hs⟩ := F.ex
  exact PE.by_ (pe_callSD ok hr hg hm hk hb hd (fun σ => passAt tk σ) ha F.dbg (star_cons h1.1) (star_none h1.2)) fun σ H Q q => call_read hj hs q
/-- a call without arguments -/
theorem e_call0 {k j : Nat} {f : Fn} {x : Str} {p pos : Pos} (F : FnF X.prog X.w X.K X.mg X.base k x f) (hj : G.fns[j]? = some f) (hr : Room k X.A) (tk : Takes X W) (hg : Gl X x) : PE X (.Call (.Name x p) [] [] pos) (tI G W X.K (.call j [])) := by
  obtain ⟨a, fd, ps, sp, ds, dvs, hm, hk, ok, hb, hd, hs⟩ := F.ex
  refine ⟨fun pins s σ H Q I h => ?_⟩
  have h' : tCallSD sp dvs (WE W) (tIa G W X.K f.io 0 []) σ H Q := call_read hj hs h
  obtain ⟨H0, M0, A, env, E, h'⟩ := h'
  rw [eva] at h'
  have h2 := h' H Stp.refl Sub.refl E [] .nil
  refine wpAny_Call_Name_kw (ld_glob I hg hm ?_ F.dbg)
  exact PySem.W.callWith_K0 I.kIn hk (run_fnSD (us := []) (vs := []) ok hr hb hd (passAt tk σ) I .nil h2)
/-- a class is called; what is raised is wished for at the caller's slots -/
theorem mkS {CX : CXT} {k : Nat} {C f : Addr} {fd : FuncData} {ps : List Str} {sp : Sp} {dvs : List V} {dds : List Value} {T : L2.St → XK} {pins : List (Addr × Obj)} {τ : L2.St} {H : Hp} {s : Shared} {Q : VK} {us : List Value} {vs : List V}
    (M : Mk X.K C f) (F : FnOk X.prog X.w X.K X.mg X.base CX k f fd ps sp) (room : Room (k + 1) X.A) (bi : Binds X.K fd ps dds) (dv : Vals dvs dds) (pa : PassesAt CX X τ (T τ)) (I : Inv X pins τ H s) (r : Vals vs us)
    (h : ∀ o d, H o = none → H d = none → d ≠ o → sp (.ref o :: (vs ++ dvs)) (upd (upd H d (.own o)) o (.ins C d [])) (fun v H2 => v = .non ∧ Q (.ref o) H2) (T τ)) : wpAny (model X.prog X.w) X.A (call (.ref C) us) (EP X pins τ Q) X.xe s := by
  have sz := s.heap.objs.size
  have want := h (s.heap.objs.size + 1) s.heap.objs.size (I.hok.fresh (Nat.le_succ _)) (I.hok.fresh (Nat.le_refl _)) (Nat.ne_of_lt (Nat.lt_succ_self _))
  have J := Inv.made (C := C) I
  have rr : Vals (V.ref (s.heap.objs.size + 1) :: (vs ++ dvs)) (Value.ref (s.heap.objs.size + 1) :: (us ++ dds)) := .cons rfl (r.append dv)
  have many : (Value.ref (s.heap.objs.size + 1) :: us ++ dds).length = ps.length := (rr.length.symm.trans (F.len _ _ _ _ want))
  have bound := bi _ (Value.ref (s.heap.objs.size + 1) :: us) J.kIn many
  refine wpAny_call (make_map (f := f) I.kIn M.makes M.init (beq_iff_eq.mp M.fn) (codeAny_mono (F.go _ X.stack _ _ ⟨Value.ref (s.heap.objs.size + 1) :: us, []⟩ _ _ _ (T τ) (room.make C us []) (J.env0.make C us []) bound rr want) fun res s' got => ?_))
  match res, got with
  | .error e, got => exact pa pins _ _ e s' J got
  | .ok (.ret u), got =>
    obtain ⟨v, H', J', rv, ev, q⟩ := J.after got
    cases ev
    exact ⟨rv, V.ref (s.heap.objs.size + 1), H', J', rfl, q⟩
  | .ok .next, got => exact got.elim
  | .ok .brk, got => exact got.elim
  | .ok .cont, got => exact got.elim
theorem evs_len (G : Ctx) : ∀ (es : List IR) (env : Env) (p : List D) (e1 : Env), evs G es env = .ok p e1 → p.length = es.length
  | [], env, p, e1, h => by rw [evs] at h; cases h; rfl
  | e :: es, env, p, e1, h => by
    rw [evs] at h
    cases h1 : (ev G e env).take with
    | bad => rw [h1] at h; cases h
    | exc C f d e2 => rw [h1] at h; cases h
    | ok d e2 =>
      rw [h1] at h
      have h : ((evs G es e2).bind fun ds e2 => R.ok (d :: ds) e2) = .ok p e1 := h
      cases h2 : evs G es e2 with
      | bad => rw [h2] at h; cases h
      | exc C f d e3 => rw [h2] at h; cases h
      | ok q e3 =>
        rw [h2] at h
        cases h
        simp [evs_len G es e2 q _ h2]
theorem make_read {K : PySem.W.Frag} {j : Nat} {m : Mkr} {is : List IR} (hj : G.mks[j]? = some m) {σ : L2.St} {H : Hp} {Q : VK} (q : tI G W K (.make j is) σ H Q) :
    tIs G W K is σ H fun vs H1 => ∀ o d, H1 o = none → H1 d = none → d ≠ o → spMk K m.C m.n m.ns m.sem (.ref o :: vs) (upd (upd H1 d (.own o)) o (.ins (clsAt K m.C) d [])) (fun v H2 => v = .non ∧ Q (.ref o) H2) (WE W σ) := by
  obtain ⟨H0, M0, A, env, E, q⟩ := q
  rw [ev, hj] at q
  dsimp only at q
  by_cases hl : is.length = m.n
  · rw [if_pos hl] at q
    refine ⟨H0, M0, A, env, E, (Sat.bind q).mono fun ds e1 H1 he s1 u1 E1 h1 vs hv o d ho hd hne => ?_⟩
    have t1 : Stp NoA H1 (upd (upd H1 d (.own o)) o (.ins (clsAt K m.C) d [])) := (Stp.new hd).trans (Stp.new (by rw [upd_ne (Ne.symm hne)]; exact ho))
    have lv : vs.length = m.n := by rw [← hv.length, evs_len G is env ds e1 he]; exact hl
    refine ⟨MM M0 e1 σ, ds, o, d, vs, ⟨fun b hb => t1.mo b (E1.mok.al b hb), fun P q h => t1.tb P q h (E1.tb P q h)⟩, rfl, lv, upd_same, (E1.fresh ho).1, RepL.stp t1.no (fun _ z => z) ds vs (RepL.grow (fun b z => z.elim .inl fun q => .inr (by rw [q]; exact nn_of ho)) ds vs hv), ?_⟩
    · have back : ∀ {H' : Hp}, Stp (fun x => x = o) (upd (upd H1 d (.own o)) o (.ins (clsAt K m.C) d [])) H' → Stp NoA H1 H' := fun {H'} s => ⟨fun b u e _ t => s.st b u (t1.st b u e id t) (fun z => by rw [z, ho] at e; cases e) t, fun b h => s.mo b (t1.mo b h), fun P q m h => s.tb P q m (t1.tb P q m h)⟩
      cases e : m.sem ds with
      | bad => rw [e] at h1; exact h1.elim
      | ok r out =>
        rw [e] at h1
        intro xs H' st h' hlen rr
        refine ⟨rfl, h1 H' (back st).no Sub.refl (E1.keep (back st)) _ ?_⟩
        show Rep K H' (MM M0 e1 σ) (.obj m.C m.ns out) (.ref o)
        unfold Rep
        exact ⟨o, d, xs, rfl, (E1.fresh ho).1, h', hlen, rr⟩
      | exc C f r out =>
        rw [e] at h1
        intro dd v H' st h' rr
        exact h1 dd v H' (back st).no Sub.refl (E1.keep (back st)) h' rr
  · rw [if_neg hl] at q
    exact q.elim
theorem e_make {k j : Nat} {m : Mkr} {x : Str} {e : Expr} {es : List Expr} {is : List IR} {p pos : Pos} (F : MkF X.prog X.w X.K X.mg X.base k x m) (hj : G.mks[j]? = some m) (hr : Room (k + 1) X.A) (tk : Takes X W) (hg : Gl X x) (ha : PA X (e :: es) (tIs G W X.K is)) (h1 : (e :: es).any starB = false) :
    PE X (.Call (.Name x p) (e :: es) [] pos) (tI G W X.K (.make j is)) := by
  rw [List.any_cons, Bool.or_eq_false_iff] at h1
  obtain ⟨a, fd, ps, sp, ds, dvs, hm, hk, ok, hb, hd, hs⟩ := F.ex
  refine ⟨fun pins s σ H Q I h => ?_⟩
  refine wpAny_Call_Name_kw (ld_glob I hg hm ?_ F.dbg)
  refine PySem.W.callWith_K (h₀ := X.base) I.ok.mod.kin hk.kp (thn (ha.run pos pins s σ H _ I (make_read hj h)) fun us s1 ⟨vs, H1, I1, r, q⟩ => ⟨I1.kIn, ?_⟩) (star_cons h1.1) (star_none h1.2)
  exact mkS (T := WE W) hk ok hr hb hd (passAt tk σ) I1 r fun o d ho hd' hne => hs _ _ _ _ _ (q o d ho hd' hne)
end
end Mp
set_option maxHeartbeats 4000000
namespace Mp
open PySem L2
variable [TabsW] [GdW]
section
variable {X : Cx} {G : Ctx} {W : WX}
theorem lookup_zip_none {f : Str} : ∀ {ns : List Str} {xs : List V}, ns.contains f = false → (ns.zip xs).lookup f = none
  | [], xs, _ => by simp
  | n :: ns, [], _ => by simp
  | n :: ns, x :: xs, h => by
    rw [List.contains_cons, Bool.or_eq_false_iff] at h
    rw [List.zip_cons_cons, List.lookup_cons, h.1]
    exact lookup_zip_none h.2
theorem meth_read {K : PySem.W.Frag} {j : Nat} {m : Mt} {o' : IR} {is : List IR} (hj : G.mts[j]? = some m) {σ : L2.St} {H : Hp} {Q : VK} (q : tI G W K (.meth j o' is) σ H Q) :
    tI G W K o' σ H fun x H1 => ∃ a dx fs, x = .ref a ∧ H1 a = some (.ins (clsAt K m.C) dx fs) ∧ fs.lookup m.name = none ∧ tIs G W K is σ H1 fun vs H2 => spF K m.n none m.sem (x :: vs) H2 Q (WE W σ) := by
  obtain ⟨H0, M0, A, env, E, q⟩ := q
  rw [ev, hj] at q
  dsimp only at q
  refine ⟨H0, M0, A, env, E, (Sat.bind q).mono fun o e1 H1 he s1 u1 E1 h1 x hx => ?_⟩
  cases o with
  | pl i => exact h1.elim
  | val d =>
    cases d with
    | obj C ns ds =>
      have h1 : Sat K H0 M0 A W (if C = m.C ∧ is.length + 1 = m.n ∧ ns.contains m.name = false then (evs G is e1).bind fun vs e2 => frR e2 none [] (m.sem (.obj C ns ds :: vs)) else .bad) e1 σ H1 (fun o e1 H1 => ∀ v, OpdR K M0 e1 σ H1 o v → Q v H1) := h1
      by_cases hc : C = m.C ∧ is.length + 1 = m.n ∧ ns.contains m.name = false
      · rw [if_pos hc] at h1
        obtain ⟨hC, hn, hno⟩ := hc
        have hx0 : Rep K H1 (MM M0 e1 σ) (.obj C ns ds) x := hx
        have hx1 := hx0
        unfold Rep at hx1
        obtain ⟨a, dx, xs, rfl, nm, ha, hl, rr⟩ := hx1
        refine ⟨a, dx, _, rfl, by rw [← hC]; exact ha, lookup_zip_none hno, ?_⟩
        refine ⟨H0, M0, A, e1, E1, (Sat.bind h1).mono fun vs e2 H2 he2 s2 u2 E2 h2 ws hw => ?_⟩
        have hx2 := hold hx0 E1.aM s2 u2
        refine ⟨by rw [List.length_cons, ← hw.length, evs_len G is e1 vs e2 he2]; exact hn, MM M0 e2 σ, .obj C ns ds :: vs, E2.mok, ?_, ?_⟩
        · refine ⟨by simp [hw.length], fun i d v g1 g2 => ⟨fun _ => ?_, fun z => nomatch z⟩⟩
          obtain ⟨y, y1, y2⟩ := (RepL.cons hx2 hw).get g1
          rw [g2] at y1; cases y1
          exact y2
        · cases e : m.sem (.obj C ns ds :: vs) with
          | bad => rw [e] at h2; exact h2.elim
          | ok d out =>
            rw [e] at h2
            intro v H' st _ rv
            have st' : Stp NoA H2 H' := st.weak fun a ⟨i, z, _⟩ => nomatch z
            exact h2 H' st'.no Sub.refl (E2.keep st') v rv
          | exc C f d out =>
            rw [e] at h2
            intro dd v H' st _ hd rv
            have st' : Stp NoA H2 H' := st.weak fun a ⟨i, z, _⟩ => nomatch z
            exact h2 dd v H' st'.no Sub.refl (E2.keep st') hd rv
      · rw [if_neg hc] at h1; exact h1.elim
    | _ => exact h1.elim
/-- no call of super() -/
def baseB : Expr → Bool
  | .Call _ [] [] _ => true
  | _ => false
theorem base_of {o : Expr} {f : Str} {env : PySem.Env} {whole : Sem Value} (h : baseB o = false) : attributeBase o f env whole = whole := by
  unfold attributeBase
  split
  · cases h
  · rfl
theorem e_meth {k j : Nat} {m : Mt} {o e : Expr} {es : List Expr} {o' : IR} {is : List IR} {apos pos : Pos} {pl : Sem Bool} (F : MtF X.prog X.w X.K X.mg X.base k m) (hj : G.mts[j]? = some m) (hr : Room k X.A) (tk : Takes X W) (ho : PE X o (tI G W X.K o')) (ha : PA X (e :: es) (tIs G W X.K is)) (h1 : (e :: es).any starB = false)
    (ht : eval (.Call (.Attribute o m.name apos) (e :: es) [] pos) X.env = (do
      let ov ← eval o X.env
      standAt apos.atName
      let (f, first) ← holding [ov] (getMethod ov m.name pl)
      callWith pos f first (backTo pos (starEach (e :: es) X.env)) (backToKw pos (keywordEach [] X.env)))) : PE X (.Call (.Attribute o m.name apos) (e :: es) [] pos) (tI G W X.K (.meth j o' is)) := by
  rw [List.any_cons, Bool.or_eq_false_iff] at h1
  obtain ⟨a, fd, ps, sp, ds, dvs, hm, ok, hb, hd, hs⟩ := F.ex
  refine ⟨fun pins s σ H Q I h => ?_⟩
  refine PySem.W.methodCall_KW (pl := pl) (thn (ho.run pins s σ H _ I (meth_read hj h)) fun u s1 ⟨x, H1, I1, rx, got⟩ => ?_) ht
  obtain ⟨b, dx, fs, rfl, hb1, hl1, q⟩ := got
  have eu : u = Value.ref b := rx
  rw [eu]
  refine getmeth_ok I1 hb1 F.cl hm hl1 ?_
  refine PySem.W.callWith_K (first := [.ref b]) (h₀ := X.base) I.ok.mod.kin hm.kp (thn (ha.run pos pins s1 σ H1 _ I1 q) fun us s2 ⟨vs, H2, I2, r, q2⟩ => ⟨I2.kIn, ?_⟩) (star_cons h1.1) (star_none h1.2)
  exact run_fnSD (E := WE W) (us := .ref b :: us) (vs := .ref b :: vs) ok hr hb hd (passAt tk σ) I2 (.cons rfl r) (hs _ _ _ _ q2)
theorem e_meth0 {k j : Nat} {m : Mt} {o : Expr} {o' : IR} {apos pos : Pos} {pl : Sem Bool} (F : MtF X.prog X.w X.K X.mg X.base k m) (hj : G.mts[j]? = some m) (hr : Room k X.A) (tk : Takes X W) (ho : PE X o (tI G W X.K o'))
    (ht : eval (.Call (.Attribute o m.name apos) [] [] pos) X.env = (do
      let ov ← eval o X.env
      standAt apos.atName
      let (f, first) ← holding [ov] (getMethod ov m.name pl)
      callWith pos f first (backTo pos (starEach [] X.env)) (backToKw pos (keywordEach [] X.env)))) : PE X (.Call (.Attribute o m.name apos) [] [] pos) (tI G W X.K (.meth j o' [])) := by
  obtain ⟨a, fd, ps, sp, ds, dvs, hm, ok, hb, hd, hs⟩ := F.ex
  refine ⟨fun pins s σ H Q I h => ?_⟩
  refine PySem.W.methodCall_KW (pl := pl) (thn (ho.run pins s σ H _ I (meth_read hj h)) fun u s1 ⟨x, H1, I1, rx, got⟩ => ?_) ht
  obtain ⟨b, dx, fs, rfl, hb1, hl1, q⟩ := got
  have eu : u = Value.ref b := rx
  rw [eu]
  refine getmeth_ok I1 hb1 F.cl hm hl1 ?_
  obtain ⟨H0, M0, A, env, E, q⟩ := q
  rw [evs] at q
  have q2 := q H1 Stp.refl Sub.refl E [] RepL.nil
  exact PySem.W.callWith_K0 (first := [.ref b]) I1.kIn hm.kp (run_fnSD (E := WE W) (us := [.ref b]) (vs := [.ref b]) ok hr hb hd (passAt tk σ) I1 (.cons rfl .nil) (hs _ _ _ _ q2))
theorem lookup_zip {K : PySem.W.Frag} {H : Hp} {M : AS} {f : Str} {d : D} : ∀ {ns : List Str} {ds : List D} {xs : List V}, RepL K H M ds xs → ns.length = xs.length → (ns.zip ds).lookup f = some d → ∃ x, (ns.zip xs).lookup f = some x ∧ Rep K H M d x
  | [], ds, xs, r, hl, e => by simp at e
  | n :: ns, [], xs, r, hl, e => by simp at e
  | n :: ns, d' :: ds, xs, r, hl, e => by
    unfold RepL at r
    obtain ⟨x, ys, rfl, r1, r2⟩ := r
    rw [List.zip_cons_cons, List.lookup_cons] at e ⊢
    cases h : f == n with
    | true => rw [h] at e; cases e; exact ⟨x, rfl, r1⟩
    | false => rw [h] at e; exact lookup_zip r2 (by simpa using hl) e
/-- what is known of the classes whose fields are read -/
structure ClsF (K : PySem.W.Frag) (cs : List Str) (fs : List Str) : Prop where
  cl : ∀ C ∈ cs, Cls K (clsAt K C)
  no : ∀ C ∈ cs, ∀ f ∈ fs, NoAttr K (clsAt K C) f
theorem e_fld {o : Expr} {f : Str} {o' : IR} {pos : Pos} {fs : List Str} (F : ClsF X.K G.cls fs) (hf : f ∈ fs) (ho : PE X o (tI G W X.K o')) (hb : baseB o = false) : PE X (.Attribute o f pos) (tI G W X.K (.fld o' f)) := PE.by_ (pe_fld ho (base_of hb)) fun σ H Q q => by
  obtain ⟨H0, M0, A, env, E, q⟩ := q
  rw [ev] at q
  refine ⟨H0, M0, A, env, E, (Sat.bind q).mono fun o2 e1 H1 he s1 u1 E1 h1 x hx => ?_⟩
  cases e : rdO e1 o2 with
  | none => rw [e] at h1; exact h1.elim
  | some d =>
    rw [e] at h1
    have r := hx.rdT E1 e
    cases d with
    | obj C ns ds =>
      have h1 : Sat X.K H0 M0 A W (if G.cls.contains C then lift e1 ((ns.zip ds).lookup f) else .bad) e1 σ H1 (fun o e1 H1 => ∀ v, OpdR X.K M0 e1 σ H1 o v → Q v H1) := h1
      by_cases hc : G.cls.contains C = true
      · rw [if_pos hc] at h1
        have hC : C ∈ G.cls := by simpa using hc
        have r' : Rep X.K H1 (MM M0 e1 σ) (.obj C ns ds) x := r
        unfold Rep at r'
        obtain ⟨a, dx, xs, rfl, nm, ha, hl, rr⟩ := r'
        cases e2 : (ns.zip ds).lookup f with
        | none => rw [e2] at h1; exact h1.elim
        | some z =>
          rw [e2] at h1
          obtain ⟨y, y1, y2⟩ := lookup_zip rr hl e2
          exact ⟨a, clsAt X.K C, dx, _, y, rfl, ha, F.cl C hC, F.no C hC f hf, y1, h1 H1 Stp.refl Sub.refl E1 y y2⟩
      · rw [if_neg hc] at h1; exact h1.elim
    | _ => exact h1.elim
theorem e_chn {a b c : Expr} {op op' : CmpOp} {o1 o2 : COp} {a' b' c' : IR} {r r' : R2} {pos : Pos} (ho : OpR X (compareOp op) r) (ho' : OpR X (compareOp op') r') (hs : CmS X.K r o1) (hs' : CmS X.K r' o2) (ha : PE X a (tI G W X.K a')) (hb : PE X b (tI G W X.K b')) (hc : PE X c (tI G W X.K c'))
    (hm : lastMarks [op, op'] [b, c] = false) : PE X (.Compare a [op, op'] [b, c] pos) (tI G W X.K (.chn o1 o2 a' b' c')) := PE.by_ (pe_chain ho ho' ha hb hc hm) fun σ H Q q => by
  obtain ⟨H0, M0, A, env, E, q⟩ := q
  rw [ev] at q
  refine ⟨H0, M0, A, env, E, (Sat.bind q).mono fun o e1 H1 _ s1 u1 E1 h1 x hx => ?_⟩
  refine ⟨H0, M0, A, e1, E1, (Sat.bind h1).mono fun ob e2 H2 _ s2 u2 E2 h2 y hy => ?_⟩
  have hx2 := hx.hold E1.aM s2 u2
  cases e3 : rdO e2 o with
  | none => rw [e3] at h2; exact h2.elim
  | some p =>
    cases e : rdO e2 ob with
    | none => rw [e3, e] at h2; exact h2.elim
    | some q' =>
      rw [e3, e] at h2
      dsimp only at h2
      cases e4 : cmpD o1 p q' with
      | none => rw [e4] at h2; exact h2.elim
      | some k =>
        rw [e4] at h2
        refine hs (MM M0 e2 σ) x y H2 p q' (.bl k) _ (hx2.rdT E2 e3) (hy.rdT E2 e) (fun a ha => (E2.fresh ha).1) (by show Option.map D.bl (cmpD o1 p q') = some (D.bl k); rw [e4] <;> rfl) fun v H' st rv => ?_
        have E2' := E2.keep st
        unfold Rep at rv
        refine ⟨k, rv, ?_⟩
        cases k with
        | false =>
          show Q (.bl false) H'
          exact h2 H' st.no Sub.refl E2' _ (rep_bl (K := X.K) (H := H') (M := MM M0 e2 σ) false)
        | true =>
          show tI G W X.K c' σ H' fun w' H4 => r' y w' H4 Q
          dsimp only at h2
          refine ⟨H0, M0, A, e2, E2', (Sat.bind (h2.step st.no)).mono fun oc e3 H3 _ s3 u3 E3 h3 z hz => ?_⟩
          have hy2 : OpdR X.K M0 e2 σ H' ob y := hy.hold E2.aM (st.no) Sub.refl
          exact op_end hs' E3 (hy2.hold E2'.aM s3 u3) hz h3
end
end Mp
set_option maxHeartbeats 4000000
namespace Mp
open PySem PyProof.Rows
open PySem.Sem (wp)
theorem ne2 {c i l z : Addr} (h : c = i ∨ c = l) (a : i ≠ z) (b : l ≠ z) : c ≠ z := by rcases h with rfl | rfl <;> assumption
/-- an inner iterator: where it stands, what its next item is, and that it ends -/
structure Inner (prog : Program) (w : World) (it src : Addr) (items : Array Value) (St : Heap → Nat → Prop) : Prop where
  stay : ∀ {h h' : Heap} {k : Nat}, St h k → (∀ c o, c = it ∨ c = src → h.get? c = some o → h'.get? c = some o) → St h' k
  here : ∀ {h : Heap} {k : Nat}, St h k → it < h.objs.size
  item : ∀ {A : Around} {E : Value → Shared → Prop} {s : Shared} {k : Nat} {x : Value} {Q : Value → Shared → Prop}, St s.heap k → items[k]? = some x →
    (∀ h', St h' (k + 1) → Heap.SameBut it s.heap h' → Q x { s with heap := h' }) → wpAny (model prog w) A (Builtin.SmallTypes.nextOf (.ref it)) Q E s
  stop : ∀ {A : Around} {E : Value → Shared → Prop} {s : Shared} {k : Nat} {Q : Value → Shared → Prop}, A.handled = none → St s.heap k → items[k]? = none →
    (∀ h' e, Heap.ExtBut it s.heap h' → (∃ o, h'.get? e = some o ∧ o.cls = .type "StopIteration") → E (.ref e) { s with heap := h' }) → wpAny (model prog w) A (Builtin.SmallTypes.nextOf (.ref it)) Q E s
section
variable {prog : Program} {w : World}
theorem inner_tuple {i l : Addr} {xs : Array Value} (ne : l ≠ i) : Inner prog w i l xs (fun h k => h.IsTupleIter i l k ∧ h.IsTuple l xs) where
  stay := fun ⟨a, b⟩ k => ⟨a.at fun o q => k _ o (.inl rfl) q, let ⟨o, q, r⟩ := b; ⟨o, k _ o (.inr rfl) q, r⟩⟩
  here := fun ⟨⟨_, q, _⟩, _⟩ => Heap.lt_size q
  item := fun ⟨a, b⟩ hx q => RZ.nextOf_tuple_item a b hx fun h' u v => q h' ⟨u, b.extBut v.extBut ne⟩ v
  stop := fun hh ⟨a, b⟩ hx q => RZ.nextOf_tuple_end hh a b hx q
end
open PySem.Spec L2
end Mp
set_option maxHeartbeats 4000000
namespace Mp
open PySem PyProof.Rows
open PySem.Sem (wp)
section
variable {prog : Program} {w : World}
section
variable {A : Around} {E : Value → Shared → Prop} {s : Shared} {z m l : Addr} {n : Nat} {xs : Array Value} {last : Value} {S : Heap → Nat → Prop}
theorem num_item {x : Value} {Q : Option Value → Shared → Prop} (J : Inner prog w m l xs S) (g : IsEnum s.heap z m ((n : Nat) : Int) last) (p : S s.heap n) (hx : xs[n]? = some x) (zm : z ≠ m) (zl : z ≠ l)
    (q : ∀ h', IsEnumOut h' z m ((n : Int) + 1) x s.heap.objs.size → S h' (n + 1) → h'.get? s.heap.objs.size = some { cls := .type "tuple", data := .seq #[.int n s.toks, x] } → h'.objs.size = s.heap.objs.size + 1 →
      (∀ c o, c ≠ z → c ≠ m → s.heap.get? c = some o → h'.get? c = some o) → Q (some (.ref s.heap.objs.size)) { s with heap := h', toks := s.toks + 1 }) : wpAny (model prog w) A (pyNext (.ref z)) Q E s := by
  obtain ⟨h0, gs, ds, tk, os⟩ := s
  have tz : Shared.TypeIs ⟨h0, gs, ds, tk, os⟩ (.ref z) "enumerate" := ⟨_, g, rfl⟩
  unfold pyNext; refine wpAny_bind (wpAny_attempt (wpAny_callSpecial?_slot (name := Str.ofString "__next__") tz F.slot_enumerate_next (wpAny_call_entry F.slot_enumerate_next tz F.entry_enumerate_next ?_ (F.args_enumerate_next_1 _))))
  show wpAny _ _ (field (.ref z) 2 >>= _) _ _ _; refine wpAny_bind (wpAny_field g rfl (x := .ref m) rfl (wpAny_bind (J.item p hx fun ha pa sa => ?_)))
  have sa : Heap.SameBut m h0 ha := sa
  have ga : IsEnum ha z m ((n : Nat) : Int) last := (sa.2 z zm).trans g
  show wpAny _ _ (field (.ref z) 3 >>= _) _ _ ⟨ha, gs, ds, tk, os⟩; refine wpAny_bind (wpAny_field ga rfl (x := rawInt n) rfl ?_)
  show wpAny _ _ (field (.ref z) 4 >>= _) _ _ ⟨ha, gs, ds, tk, os⟩; refine wpAny_bind (wpAny_field ga rfl (x := .none) rfl ?_)
  show wpAny _ _ (mkInt n >>= _) _ _ ⟨ha, gs, ds, tk, os⟩; refine wpAny_bind (wpAny_mkInt ?_)
  show wpAny _ _ (setField (.ref z) 3 (rawInt ((n : Int) + 1)) >>= _) _ _ ⟨ha, gs, ds, tk + 1, os⟩; refine wpAny_bind (wpAny_setField_rec ga (by simp) fun hb gb sb => ?_)
  have sb : Heap.SameBut z ha hb := sb
  have gb : IsEnum hb z m ((n : Int) + 1) last := gb
  show wpAny _ _ (setField (.ref z) 4 .none >>= _) _ _ ⟨hb, gs, ds, tk + 1, os⟩; refine wpAny_bind (wpAny_setField_rec gb (by simp) fun hc gc sc => ?_)
  have sc : Heap.SameBut z hb hc := sc
  have gc : IsEnum hc z m ((n : Int) + 1) last := gc
  show wpAny _ _ (newTuple [.int n tk, x] >>= _) _ _ ⟨hc, gs, ds, tk + 1, os⟩; refine wpAny_bind (wpAny_newTuple ?_)
  have size : hc.objs.size = h0.objs.size := by rw [sc.1, sb.1, sa.1]
  have zl' : z < h0.objs.size := Heap.lt_size g
  have pc : S hc (n + 1) := J.stay pa fun c o hcm u => sc.extBut _ _ (ne2 hcm zm.symm zl.symm) (sb.extBut _ _ (ne2 hcm zm.symm zl.symm) u)
  have gd : IsEnum (hc.push { cls := .type "tuple", data := .seq #[.int n tk, x] }) z m ((n : Int) + 1) last := Heap.get?_push_of_some _ gc
  have td : (hc.push { cls := .type "tuple", data := .seq #[.int n tk, x] }).get? h0.objs.size = some { cls := .type "tuple", data := .seq #[.int n tk, x] } := by rw [← size]; exact Heap.get?_push_size _ rfl
  have nd : (hc.push { cls := .type "tuple", data := .seq #[.int n tk, x] }).objs.size = h0.objs.size + 1 := by rw [Heap.size_push, size]
  have pd : S (hc.push { cls := .type "tuple", data := .seq #[.int n tk, x] }) (n + 1) := J.stay pc fun c o _ u => Heap.get?_push_of_some _ u
  have kd : ∀ c o, c ≠ z → c ≠ m → h0.get? c = some o → (hc.push { cls := .type "tuple", data := .seq #[.int n tk, x] }).get? c = some o := fun c o n1 n2 u => Heap.get?_push_of_some _ (sc.extBut _ _ n1 (sb.extBut _ _ n1 (sa.extBut _ _ n2 u)))
  show wpAny _ _ (Builtin.SmallTypes.ownedTupleIsFree (.ref z) >>= _) _ _ ⟨hc.push { cls := .type "tuple", data := .seq #[.int n tk, x] }, gs, ds, tk + 1, os⟩
  rw [size]
  generalize hc.push { cls := .type "tuple", data := .seq #[.int n tk, x] } = hd at gd td nd pd kd ⊢
  refine wpAny_bind ?_; unfold Builtin.SmallTypes.ownedTupleIsFree; refine wpAny_bind (wpAny_field gd rfl (x := .none) rfl (wpAny_pure ?_))
  simp only [if_true]; refine wpAny_bind (wpAny_rule (wpAny_bind (wpAny_field gd rfl (x := last) rfl ?_)))
  refine wpAny_bind (wpAny_setField_rec gd (by simp) fun he ge se => ?_)
  have se : Heap.SameBut z hd he := se
  have ge : IsEnum he z m ((n : Int) + 1) x := ge
  show wpAny _ _ (Builtin.SmallTypes.ownedTupleHandOut (.ref z) (.ref h0.objs.size) >>= _) _ _ ⟨he, gs, ds, tk + 1, os⟩; refine wpAny_bind ?_
  unfold Builtin.SmallTypes.ownedTupleHandOut; refine wpAny_bind (wpAny_setField_rec ge (by simp) fun hf gf sf => ?_)
  have sf : Heap.SameBut z he hf := sf
  have gf : IsEnumOut hf z m ((n : Int) + 1) x h0.objs.size := gf
  refine wpAny_setField_rec gf (by simp) fun hg gg sg => ?_
  have sg : Heap.SameBut z hf hg := sg
  have gg : IsEnumOut hg z m ((n : Int) + 1) x h0.objs.size := gg
  have up : ∀ c o, c ≠ z → hd.get? c = some o → hg.get? c = some o := fun c o ne u => sg.extBut _ _ ne (sf.extBut _ _ ne (se.extBut _ _ ne u))
  refine wpAny_bind (wpAny_letGo (wpAny_pure ⟨_, rfl, wpAny_pure (q hg gg ?_ ?_ ?_ ?_)⟩))
  · exact J.stay pd fun c o hcm u => up c o (ne2 hcm zm.symm zl.symm) u
  · exact up _ _ (Nat.ne_of_gt zl') td
  · rw [sg.1, sf.1, se.1, nd]
  · exact fun c o n1 n2 u => up c o n1 (kd c o n1 n2 u)
theorem num_end {Q : Option Value → Shared → Prop} (hh : A.handled = none) (J : Inner prog w m l xs S) (g : IsEnum s.heap z m ((n : Nat) : Int) last) (p : S s.heap n) (hx : xs[n]? = none)
    (q : ∀ h', Heap.ExtBut m s.heap h' → Q none { s with heap := h' }) : wpAny (model prog w) A (pyNext (.ref z)) Q E s := by
  have tz : s.TypeIs (.ref z) "enumerate" := ⟨_, g, rfl⟩
  unfold pyNext; refine wpAny_bind (wpAny_attempt (wpAny_callSpecial?_slot (name := Str.ofString "__next__") tz F.slot_enumerate_next (wpAny_call_entry F.slot_enumerate_next tz F.entry_enumerate_next ?_ (F.args_enumerate_next_1 _))))
  show wpAny _ _ (field (.ref z) 2 >>= _) _ _ _; refine wpAny_bind (wpAny_field g rfl (x := .ref m) rfl (wpAny_bind (J.stop hh p hx fun h' e se ⟨oe, ge, ce⟩ => ?_)))
  refine wpAny_bind (wpAny_isInstance (T := "StopIteration") (b := true) ⟨oe, ge, ce⟩ isSubtype_stop ?_)
  exact wpAny_pure (q _ se)
end
abbrev ntA (h : Heap) (m : Addr) : Heap := h.push { cls := .type "tuple_iterator", data := .fields #[.ref m, .int 0 0] }
abbrev ntB (h : Heap) (m : Addr) : Heap := (ntA h m).push { cls := .type "enumerate", data := .fields #[.none, .bool false, .ref h.objs.size, rawInt 0, .none, .none] }
theorem meets_num (m : Addr) (ys : Array Value) (k : Nat) (dc : Option Addr) (so : Array (Option Value)) : Meets (Builtin.«enumerate.__new__» ⟨[.type "enumerate", .ref m], []⟩) (fun _ R s => s.heap.get? m = some { cls := .type "tuple", dict := dc, data := .seq ys k, slots := so } ∧ R (.ok (.ret (.ref (ntA s.heap m).objs.size))) { s with heap := ntB s.heap m }) :=
  .of_wp fun prog w A R s h => by
    obtain ⟨h0, gs, ds, tk, os⟩ := s; obtain ⟨gm, h⟩ := h; have below := sub_enumerate
    have g2 : Heap.IsTuple (Shared.heap ⟨h0, gs, ds, tk, os⟩) m ys := ⟨_, gm, rfl, k, rfl⟩
    wp_walk using PySem.AutoSeq1.wpAny_loadPart' gm
    refine wpAny_stack_any fun st => wpAny_pure ?_; split
    · rename_i c _ _ _ _ _; cases (c == Value.type "enumerate")
      · wp_walk using PySem.AutoSeq1.wpAny_loadPart' gm, wpAny_pyIter_tuple g2; exact ⟨_, rfl, h⟩
      · wp_walk using PySem.AutoSeq1.wpAny_loadPart' gm, wpAny_pyIter_tuple g2; exact ⟨_, rfl, h⟩
    · wp_walk using PySem.AutoSeq1.wpAny_loadPart' gm, wpAny_pyIter_tuple g2; exact ⟨_, rfl, h⟩
section
variable {A : Around} {E : Value → Shared → Prop} {s : Shared}
theorem call_num {m : Addr} {ys : Array Value} {Q : Value → Shared → Prop} (gm : s.heap.IsTuple m ys)
    (q : ∀ h', IsEnum h' (s.heap.objs.size + 1) s.heap.objs.size 0 .none → h'.IsTupleIter s.heap.objs.size m 0 → (∀ c o, s.heap.get? c = some o → h'.get? c = some o) → Q (.ref (s.heap.objs.size + 1)) { s with heap := h' }) :
    wpAny (model prog w) A (call (.type "enumerate") [.ref m]) Q E s := by
  obtain ⟨⟨c, dc, dt, so⟩, gm, ec, k, ed⟩ := gm
  have ec : c = .type "tuple" := ec
  have ed : dt = .seq ys k := ed
  subst ec ed
  refine callType_new F.called_enumerate (by decide) (F.typeCall_enumerate_1 _) (F.newCall_enumerate_1 _) (fun obj => F.args_object_init_2 obj _) F.entry_enumerate_new (meets_num m ys k dc so) ⟨gm, ?_⟩
  have n1 : (ntA s.heap m).objs.size = s.heap.objs.size + 1 := Heap.size_push ..
  show _ ∧ _
  rw [n1]
  have e2 : (ntB s.heap m).get? (ntA s.heap m).objs.size = some _ := Heap.get?_push_size _ rfl
  rw [n1] at e2
  have e1 : (ntB s.heap m).get? s.heap.objs.size = some _ := Heap.get?_push_of_some _ (Heap.get?_push_size _ rfl)
  exact ⟨⟨_, e2, rfl⟩, q _ e2 ⟨_, e1, rfl, rfl⟩ fun c o u => Heap.get?_push_of_some _ (Heap.get?_push_of_some _ u)⟩
end
end
open PySem.Spec L2
/-- the tuple's items with their places -/
def IteM (K : PySem.W.Frag) (a : Addr) : L2.It :=
  ⟨fun n H => ∃ (ys : List V) (y : V), SqT K H a ys ∧ ys[n]? = some y, fun n H v H' => ∃ T y, v = .ref T ∧ H T = none ∧ H' = upd H T (.tup [.int (n : Nat), y]) ∧ ∀ ys, SqT K H a ys → ys[n]? = some y, fun n H => ∃ ys : List V, SqT K H a ys ∧ ys.length ≤ n⟩
theorem turn_num {P : Program} {w : World} {K : PySem.W.Frag} {elts : List Expr} {kk : Nat} {tpos : Pos} (a z m : Addr) :
    Turn P w K (.Tuple elts kk tpos) (IteM K a) [z, m] z (fun n h => (∃ last, IsEnum h z m ((n : Nat) : Int) last) ∧ h.IsTupleIter m a n ∧ z ≠ m ∧ a ≠ m ∧ a ≠ z) where
  mem := by simp
  obj := fun n h st c hc => by
    obtain ⟨⟨last, ge⟩, ⟨o, go, _, dd⟩, _⟩ := st
    simp only [List.mem_cons, List.not_mem_nil, or_false] at hc
    rcases hc with q | q <;> rw [q]
    · exact ⟨_, ge, fun v q => nomatch q⟩
    · exact ⟨o, go, fun v q => by rw [dd] at q; cases q⟩
  keep := fun n h h' st k => let ⟨⟨last, ge⟩, gi, ne⟩ := st; ⟨⟨last, k z (by simp) _ ge⟩, gi.at fun o q => k m (by simp) o q, ne⟩
  item := by
    intro X hP hw hK hc n pins s σ H E I free st go
    subst hP hw hK
    obtain ⟨⟨last, ge⟩, gi, zm, am, az⟩ := st
    obtain ⟨ys, y, qy, hy⟩ := go
    obtain ⟨vs, rv, p, _⟩ := I.tuple qy
    obtain ⟨v, hv, r⟩ := rv.get hy
    have zl : z < s.heap.objs.size := Heap.lt_size ge
    have ml : m < s.heap.objs.size := by obtain ⟨_, q, _⟩ := gi; exact Heap.lt_size q
    refine num_item (inner_tuple (xs := vs.toArray) am) ge ⟨gi, p⟩ (x := v) (by simpa using hv) zm az.symm fun h' o' a1 new more kept => ?_
    refine ⟨_, rfl, wpAny_letOwnedTupleGo_enum (s := { s with heap := h', toks := s.toks + 1 }) o' fun h2 z2 sb => ?_⟩
    have new2 : h2.get? s.heap.objs.size = some { cls := .type "tuple", data := .seq #[.int n s.toks, v] } := (sb.2 _ (Nat.ne_of_gt zl)).trans new
    have obj2 : ObjOk X.prog X.w (upd H s.heap.objs.size (.tup [.int (n : Nat), y])) h2 s.heap.objs.size (.tup [.int (n : Nat), y]) := ⟨by show 2 ≤ sizeLine; decide, [.int n s.toks, v], .cons ⟨_, rfl⟩ (.cons r .nil), ⟨_, new2, rfl, _, rfl⟩⟩
    have I1 : Inv X pins σ (upd H s.heap.objs.size (.tup [.int (n : Nat), y])) { s with heap := h2, toks := s.toks + 1 } := I.turnedNew (ch := [z, m]) (fun c o nc u => (sb.2 c (fun e' => nc (by simp [e']))).trans (kept c o (fun e' => nc (by simp [e'])) (fun e' => nc (by simp [e'])) u)) free (Nat.le_refl _) obj2
    refine ⟨.ref s.heap.objs.size, _, I1, rfl, ⟨_, y, rfl, I.hok.fresh (Nat.le_refl _), rfl, fun l hl => by rw [I.tuple_inj hl qy]; exact hy⟩, ⟨⟨v, ?_⟩, a1.1.at fun o u => (sb.2 m zm.symm).trans u, zm, am, az⟩, fun c hcm => ?_⟩
    · have e1 : ((n + 1 : Nat) : Int) = (n : Int) + 1 := by omega
      rw [e1]; exact z2
    · have lt : c < s.heap.objs.size := by
        simp only [List.mem_cons, List.not_mem_nil, or_false] at hcm
        rcases hcm with e | e <;> rw [e] <;> assumption
      rw [upd_ne (Nat.ne_of_lt lt)]; exact (free c hcm).1
  done := by
    intro X hP hw hK hc n pins s σ H E I free st over
    subst hP hw hK
    obtain ⟨⟨last, ge⟩, gi, zm, am, az⟩ := st
    obtain ⟨ys, qy, hend⟩ := over
    obtain ⟨vs, rv, p, _⟩ := I.tuple qy
    have n1 := rv.length
    exact num_end (I.ok.hd hc) (inner_tuple (xs := vs.toArray) am) ge ⟨gi, p⟩ (by simp; omega) fun h' kept => ⟨rfl, I.turnedL (t' := s.toks) (ch := [z, m]) (fun c o nc e => kept c o (fun e' => nc (by simp [e'])) e) free⟩
  self := fun A n s Q E st h => let ⟨⟨_, ge⟩, _⟩ := st; wpAny_pyIter_enum ge h
def iEnumM (K : PySem.W.Frag) (ta : TA) : TI := fun σ H R => ta σ H fun vs H1 => ∃ a, vs = [.ref a] ∧ ((∃ xs, SqL K H1 a xs ∧ R (Ite K a) H1) ∨ (∃ xs, SqT K H1 a xs ∧ R (IteM K a) H1))
theorem pi_num {X : Cx} {e : Expr} {ta : TA} {p pos tpos : Pos} {elts : List Expr} {kk : Nat} (hg : Gl X "enumerate") (hm : X.mg "enumerate" = none) (ha : PA X [e] ta) (hs : starEach [e] X.env = [(false, eval e X.env)] := by rfl) : PI X (.Tuple elts kk tpos) (.Call (.Name "enumerate" p) [e] [] pos) (iEnumM X.K ta) := by
  refine ⟨fun pins s σ H R I h => Call_ (ld_blt I hg hm boot_enumerate (PyProof.Rows.callWith_type1 (thn (ha.run pos pins s σ H _ I h) fun us s1 ⟨vs, H1, I1, r1, q1⟩ => ?_) hs rfl))⟩
  obtain ⟨a, ex, q1⟩ := q1
  subst ex
  cases r1 with
  | cons r t =>
    cases t; cases r
    have lows : ∀ c, c ∈ [s1.heap.objs.size + 1, s1.heap.objs.size] → FpOk X pins H1 c := fun c hcm => by
      simp only [List.mem_cons, List.not_mem_nil, or_false] at hcm
      have le : s1.heap.objs.size ≤ c := by omega
      exact I1.fpOk le (I1.hok.fresh le)
    rcases q1 with ⟨xs, qx, q⟩ | ⟨xs, qx, q⟩
    · obtain ⟨its, rv, p1, _⟩ := I1.list qx
      refine call_enumerate_list p1.isList fun h' a1 a2 _ a3 => wpAny_pyIter_enum a1 ?_
      exact ⟨s1.heap.objs.size + 1, [s1.heap.objs.size + 1, s1.heap.objs.size], _, _, H1, rfl, I1.kept (t' := s1.toks) a3, turn_enum a (s1.heap.objs.size + 1) s1.heap.objs.size, ⟨⟨.none, a1⟩, a2, Nat.succ_ne_self _⟩, lows, q⟩
    · obtain ⟨its, rv, p1, _⟩ := I1.tuple qx
      have l2 : a < s1.heap.objs.size := by obtain ⟨o2, e2, _⟩ := id p1; exact Heap.lt_size e2
      refine call_num (show s1.heap.IsTuple a its.toArray from p1) fun h' a1 a2 a3 => wpAny_pyIter_enum a1 ?_
      exact ⟨s1.heap.objs.size + 1, [s1.heap.objs.size + 1, s1.heap.objs.size], _, _, H1, rfl, I1.kept (t' := s1.toks) a3, turn_num a (s1.heap.objs.size + 1) s1.heap.objs.size, ⟨⟨.none, a1⟩, a2, Nat.succ_ne_self _, Nat.ne_of_lt l2, Nat.ne_of_lt (Nat.lt_succ_of_lt l2)⟩, lows, q⟩
end Mp
set_option maxHeartbeats 4000000
namespace Mp
open PySem L2
variable [TabsW] [GdW]
/-- J goes through ds, while what was tracked at H1 outside S stands -/
def Goes (K : PySem.W.Frag) (M S : AS) (H1 : Hp) (J : L2.It) (ds : List D) : Prop := ∃ (Gd : Hp → Prop) (Y : Nat → Hp → V → Hp → Prop), Walk J ds.length Gd Y ∧ (∀ H', Stp S H1 H' → Gd H') ∧
  ∀ i H x H' (M' : AS), i < ds.length → Stp S H1 H → (∀ a, M' a → (M a ∨ ¬ Lv H1 a) ∧ Lv H a) → Y i H x H' → Stp NoA H H' ∧ ∃ d, ds[i]? = some d ∧ Rep K H' M' d x
theorem Goes.weak {K : PySem.W.Frag} {M S S' : AS} {H1 : Hp} {J : L2.It} {ds : List D} (g : Goes K M S H1 J ds) (h : ∀ a, S' a → S a) : Goes K M S' H1 J ds := by
  obtain ⟨Gd, Y, wk, h1, h2⟩ := g
  exact ⟨Gd, Y, wk, fun H' s => h1 H' (s.weak h), fun i H x H' M' hi s hM y => h2 i H x H' M' hi (s.weak h) hM y⟩
theorem PI.by_ {X : Cx} {tg e : Expr} {t t' : TI} (h : PI X tg e t) (i : ∀ σ H Q, t' σ H Q → t σ H Q) : PI X tg e t' := ⟨fun pins s σ H Q I q => h.run pins s σ H Q I (i σ H Q q)⟩
theorem PI.or {X : Cx} {tg e : Expr} {t t' : TI} (h : PI X tg e t) (h' : PI X tg e t') : PI X tg e (fun σ H Q => t σ H Q ∨ t' σ H Q) := ⟨fun pins s σ H Q I q => q.elim (fun q => h.run pins s σ H Q I q) fun q => h'.run pins s σ H Q I q⟩
def tIi (G : Ctx) (W : WX) (K : PySem.W.Frag) (it : IT) : TI := fun σ H R => ∃ H0 M0 A env, EnvR K H0 M0 A env σ H ∧ Sat K H0 M0 A W (evi G it env) env σ H fun ds e1 H1 => ∀ J, Goes K (MM M0 e1 σ) (MM M0 e1 σ) H1 J ds → R J H1
theorem iota_len : ∀ (n : Nat) (lo : Int), (iotaD lo n).length = n
  | 0, lo => rfl
  | n + 1, lo => by unfold iotaD; simp [iota_len n (lo + 1)]
theorem iota_get : ∀ (n i : Nat) (lo : Int), i < n → (iotaD lo n)[i]? = some (.int (lo + i))
  | 0, i, lo, h => absurd h (Nat.not_lt_zero _)
  | n + 1, 0, lo, h => by unfold iotaD; simp
  | n + 1, i + 1, lo, h => by
    unfold iotaD
    rw [List.getElem?_cons_succ, iota_get n i (lo + 1) (by omega)]
    congr 2
    omega
section
variable {K : PySem.W.Frag} {M S : AS} {H1 : Hp}
/-- an item, later, with other things set apart -/
theorem item_on {H : Hp} {M' : AS} {d : D} {x : V} (hS : ∀ x, S x → M x) (s : Stp S H1 H) (hM : ∀ a, M' a → (M a ∨ ¬ Lv H1 a) ∧ Lv H a) (r : Rep K H1 M d x) : Rep K H M' d x := by
  have r1 : Rep K H1 (fun a => M a ∨ M' a) d x := Rep.grow (fun a z => z.elim .inl fun q => (hM a q).1) d x r
  exact Rep.stp (s.weak fun a z => .inl (hS a z)) (fun a z => .inr z) d x r1
theorem goes_range {lo : Int} {n : Nat} : Goes K M S H1 (Itr lo n) (iotaD lo n) := by
  refine ⟨fun _ => True, YFn fun i => .int (lo + i), by rw [iota_len]; exact walk_range, fun _ _ => trivial, fun i H x H' M' hi _ _ y => ?_⟩
  obtain ⟨rfl, rfl⟩ := y
  rw [iota_len] at hi
  exact ⟨Stp.refl, _, iota_get n i lo hi, rep_int _⟩
theorem signs_len (s : Str) : (signsD s).length = s.cps.size := by unfold signsD; simp
theorem goes_txt {s : Str} : Goes K M S H1 (Its s) (signsD s) := by
  refine ⟨fun _ => True, _, by rw [signs_len]; exact walk_str, fun _ _ => trivial, fun i H x H' M' hi _ _ y => ?_⟩
  obtain ⟨rfl, c, e, rfl⟩ := y
  refine ⟨Stp.refl, .str ⟨#[c]⟩, ?_, rep_str _⟩
  unfold signsD
  rw [List.getElem?_map, Array.getElem?_toList, e]
  rfl
theorem goes_list {a : Addr} {xs : List V} {ds : List D} (hS : ∀ x, S x → M x) (h : RdK K H1 M a xs) (r : RepL K H1 M ds xs) : Goes K M S H1 (Itl K a) ds := by
  refine ⟨fun H => SqL K H a xs, YAt xs, by rw [r.length]; exact walk_list, fun H' s => (h.stp (s.weak hS) (fun _ z => z)).l, fun i H x H' M' hi s hM y => ?_⟩
  obtain ⟨rfl, e⟩ := y
  obtain ⟨d, d1, d2⟩ := r.get' e
  exact ⟨Stp.refl, d, d1, item_on hS s hM d2⟩
theorem goes_tup {a : Addr} {xs : List V} {ds : List D} (hS : ∀ x, S x → M x) (nm : ¬ M a) (h : Rd H1 a (.tup xs)) (r : RepL K H1 M ds xs) : Goes K M S H1 (Itt K a) ds := by
  refine ⟨fun H => SqT K H a xs, YAt xs, by rw [r.length]; exact walk_tup, fun H' s => Rd.t (Rd.stp s (fun z => nm (hS a z)) nt_tup h), fun i H x H' M' hi s hM y => ?_⟩
  obtain ⟨rfl, e⟩ := y
  obtain ⟨d, d1, d2⟩ := r.get' e
  exact ⟨Stp.refl, d, d1, item_on hS s hM d2⟩
theorem enum_len : ∀ (ds : List D) (k : Int), (enumD k ds).length = ds.length
  | [], k => rfl
  | d :: ds, k => by unfold enumD; simp [enum_len ds (k + 1)]
theorem enum_get : ∀ (ds : List D) (k : Int) (i : Nat) (d : D), ds[i]? = some d → (enumD k ds)[i]? = some (.tup [.int (k + i), d])
  | [], k, i, d, h => by simp at h
  | e :: ds, k, 0, d, h => by unfold enumD; simp at h; subst h; simp
  | e :: ds, k, i + 1, d, h => by
    unfold enumD
    rw [List.getElem?_cons_succ, enum_get ds (k + 1) i d (by simpa using h)]
    have : k + 1 + (i : Int) = k + ((i + 1 : Nat) : Int) := by omega
    rw [this]
theorem pair_new {H H' : Hp} {T : Addr} {x y : V} {d e : D} (hM : ∀ a, M a → Lv H a) (hT : H T = none) (eH : H' = upd H T (.tup [x, y])) (rx : Rep K H M d x) (ry : Rep K H M e y) : Stp NoA H H' ∧ Rep K H' M (.tup [d, e]) (.ref T) := by
  subst eH
  exact ⟨Stp.new hT, rep_newT hT (fun z => (hM T z).ne hT) (RepL.cons rx (RepL.cons ry RepL.nil))⟩
theorem goes_enum {a : Addr} {xs : List V} {ds : List D} (hS : ∀ x, S x → M x) (h : RdK K H1 M a xs) (r : RepL K H1 M ds xs) : Goes K M S H1 (Ite K a) (enumD 0 ds) := by
  refine ⟨fun H => SqL K H a xs, YPair (fun i => some (.int (i : Nat))) (fun i => xs[i]?), by rw [enum_len, r.length]; exact walk_enum, fun H' s => (h.stp (s.weak hS) (fun _ z => z)).l, fun i H v H' M' hi s hM y => ?_⟩
  obtain ⟨T, x, y, rfl, hT, eH, e1, e2⟩ := y
  cases e1
  obtain ⟨d, d1, d2⟩ := r.get' e2
  obtain ⟨s1, r1⟩ := pair_new (d := .int (i : Nat)) (x := .int (i : Nat)) (fun a z => (hM a z).2) hT eH (rep_int _) (item_on hS s hM d2)
  exact ⟨s1, _, by rw [enum_get ds 0 i d d1, Int.zero_add], r1⟩
theorem walk_num {a : Addr} {xs : List V} : Walk (IteM K a) xs.length (fun H => SqT K H a xs) (YPair (fun i => some (.int (i : Nat))) (fun i => xs[i]?)) := by
  refine ⟨fun i _ hi q => ⟨xs, xs[i], q, List.getElem?_eq_getElem hi⟩, fun _ q => ⟨xs, q, Nat.le_refl _⟩, fun i H v H' _ q y => ?_⟩
  obtain ⟨T, x, e1, e2, e3, e4⟩ := y
  exact ⟨T, .int (i : Nat), x, e1, e2, e3, rfl, e4 xs q⟩
theorem goes_num {a : Addr} {xs : List V} {ds : List D} (hS : ∀ x, S x → M x) (nm : ¬ M a) (h : Rd H1 a (.tup xs)) (r : RepL K H1 M ds xs) : Goes K M S H1 (IteM K a) (enumD 0 ds) := by
  refine ⟨fun H => SqT K H a xs, YPair (fun i => some (.int (i : Nat))) (fun i => xs[i]?), by rw [enum_len, r.length]; exact walk_num, fun H' s => Rd.t (Rd.stp (s.weak hS) nm nt_tup h), fun i H v H' M' hi s hM y => ?_⟩
  obtain ⟨T, x, y, rfl, hT, eH, e1, e2⟩ := y
  cases e1
  obtain ⟨d, d1, d2⟩ := r.get' e2
  obtain ⟨s1, r1⟩ := pair_new (d := .int (i : Nat)) (x := .int (i : Nat)) (fun a z => (hM a z).2) hT eH (rep_int _) (item_on hS s hM d2)
  exact ⟨s1, _, by rw [enum_get ds 0 i d d1, Int.zero_add], r1⟩
end
section
variable {X : Cx} {G : Ctx} {W : WX} {tg : Expr}
/-- one operand that is kept, then what follows -/
theorem take_read {K : PySem.W.Frag} {H0 H : Hp} {M0 A : AS} {env : Env} {σ : L2.St} {i : IR} {α : Type} {f : D → Env → R α} {P : α → Env → Hp → Prop} (E : EnvR K H0 M0 A env σ H) (q : Sat K H0 M0 A W ((ev G i env).take.bind f) env σ H P)
    {Q : VK} (k : ∀ d v e1 H1, EnvR K H0 M0 A e1 σ H1 → Rep K H1 (MM M0 e1 σ) d v → Stp (WW A env σ) H H1 → Sub σ env e1 → Sat K H0 M0 A W (f d e1) e1 σ H1 P → Q v H1) : tI G W K i σ H Q := by
  unfold R.take at q
  rw [R.bind_assoc] at q
  refine ⟨H0, M0, A, env, E, (Sat.bind q).mono fun o e1 H1 _ s1 u1 E1 h1 x hx => ?_⟩
  cases e : takeO e1 o with
  | none => rw [e] at h1; exact h1.elim
  | some p =>
    obtain ⟨d, e2⟩ := p
    rw [e] at h1
    obtain ⟨E2, rd, u2⟩ := E1.take hx e
    have h2 : Sat K H0 M0 A W (f d e2) e1 σ H1 P := h1
    exact k d x e2 H1 E2 rd s1 (u1.trans u2) (h2.sub u2)
def iSeq (K : PySem.W.Frag) (tl : TE) : TI := fun σ H R => tl σ H fun x H1 => ∃ a, x = .ref a ∧ (((∃ xs, SqL K H1 a xs) ∧ R (Itl K a) H1) ∨ ((∃ xs, SqT K H1 a xs) ∧ R (Itt K a) H1))
theorem pi_seq {l : Expr} {tl : TE} (hl : PE X l tl) : PI X tg l (iSeq X.K tl) := by
  refine ⟨fun pins s σ H R I h => thn (hl.run pins s σ H _ I h) fun w s1 got => ?_⟩
  obtain ⟨x, H1, J, rx, a, rfl, q⟩ := got
  have ew : w = Value.ref a := rx
  rw [ew]
  have new : ∀ b ∈ [s1.heap.objs.size], FpOk X pins H1 b := fun b hb => by
    have e : b = s1.heap.objs.size := by simpa using hb
    rw [e]
    exact J.fpOk (Nat.le_refl _) (J.hok.fresh (Nat.le_refl _))
  rcases q with ⟨⟨xs, hq⟩, q⟩ | ⟨⟨xs, hq⟩, q⟩
  · obtain ⟨its, _, p, _⟩ := J.list hq
    exact wpAny_pyIter_list p.isList ⟨_, [_], _, _, H1, rfl, J.kept (t' := s1.toks) (fun _ _ e => Heap.get?_push_of_some _ e), turn_list a _, ⟨_, Heap.get?_push_size _ rfl, rfl, rfl⟩, new, q⟩
  · obtain ⟨its, _, p, _⟩ := J.tuple hq
    exact wpAny_pyIter_tuple (show s1.heap.IsTuple a its.toArray from p) ⟨_, [_], _, _, H1, rfl, J.kept (t' := s1.toks) (fun _ _ e => Heap.get?_push_of_some _ e), turn_tuple a _, ⟨_, Heap.get?_push_size _ rfl, rfl, rfl⟩, new, q⟩
theorem i_seq {l : Expr} {i : IR} (hl : PE X l (tI G W X.K i)) : PI X tg l (tIi G W X.K (.seq i)) := PI.by_ (pi_seq hl) fun σ H R q => by
  obtain ⟨H0, M0, A, env, E, q⟩ := q
  rw [evi] at q
  refine take_read E q fun d v e1 H1 E1 rd s1 u1 h1 => ?_
  cases d with
  | lst ds =>
    unfold Rep at rd
    obtain ⟨a, xs, rfl, h, r⟩ := rd
    exact ⟨a, rfl, .inl ⟨⟨xs, h.l⟩, h1 H1 Stp.refl Sub.refl E1 _ (goes_list (fun _ z => z) h r)⟩⟩
  | tup ds =>
    unfold Rep at rd
    obtain ⟨a, xs, rfl, nm, h, r⟩ := rd
    exact ⟨a, rfl, .inr ⟨⟨xs, Rd.t h⟩, h1 H1 Stp.refl Sub.refl E1 _ (goes_tup (fun _ z => z) nm h r)⟩⟩
  | _ => exact h1.elim
theorem rd_read {K : PySem.W.Frag} {H0 H : Hp} {M0 A : AS} {env : Env} {σ : L2.St} {i : IR} {α : Type} {f : D → Env → R α} {P : α → Env → Hp → Prop} (E : EnvR K H0 M0 A env σ H) (q : Sat K H0 M0 A W ((ev G i env).rd.bind f) env σ H P)
    {Q : VK} (k : ∀ d v e1 H1, EnvR K H0 M0 A e1 σ H1 → RepT K H1 (MM M0 e1 σ) d v → Stp (WW A env σ) H H1 → Sub σ env e1 → Sat K H0 M0 A W (f d e1) e1 σ H1 P → Q v H1) : tI G W K i σ H Q := by
  unfold R.rd at q
  rw [R.bind_assoc] at q
  refine ⟨H0, M0, A, env, E, (Sat.bind q).mono fun o e1 H1 _ s1 u1 E1 h1 x hx => ?_⟩
  cases e : rdO e1 o with
  | none => rw [e] at h1; exact h1.elim
  | some d =>
    rw [e] at h1
    exact k d x e1 H1 E1 (hx.rdT E1 e) s1 u1 h1
theorem i_rng1 {a : Expr} {i : IR} {p pos : Pos} (hg : Gl X "range") (hm : X.mg "range" = none) (ha : PE X a (tI G W X.K i)) (hs : starB a = false) : PI X tg (.Call (.Name "range" p) [a] [] pos) (tIi G W X.K (.rng1 i)) :=
  PI.by_ (pi_range1 hg hm (pa_cons ha pa_nil (star_cons hs)) (star_cons hs)) fun σ H R q => by
    obtain ⟨H0, M0, A, env, E, q⟩ := q
    rw [evi] at q
    refine rd_read E q fun d v e1 H1 E1 rd s1 u1 h1 => ?_
    cases d with
    | int j =>
      rw [rd.int]
      have h1 : Sat X.K H0 M0 A W (if -1000000 ≤ j ∧ j ≤ 1000000 then Mp.R.ok (iotaD 0 j.toNat) e1 else .bad) e1 σ H1 (fun ds e1 H1 => ∀ J, Goes X.K (MM M0 e1 σ) (MM M0 e1 σ) H1 J ds → R J H1) := h1
      by_cases hj : -1000000 ≤ j ∧ j ≤ 1000000
      · rw [if_pos hj] at h1
        exact ⟨j, rfl, by omega, by omega, h1 H1 Stp.refl Sub.refl E1 _ goes_range⟩
      · rw [if_neg hj] at h1; exact h1.elim
    | _ => exact h1.elim
theorem i_txt {e : Expr} {i : IR} (ha : PE X e (tI G W X.K i)) : PI X tg e (tIi G W X.K (.txt i)) :=
  PI.by_ (pi_str ha) fun σ H R q => by
    obtain ⟨H0, M0, A, env, E, q⟩ := q
    rw [evi] at q
    refine rd_read E q fun d v e1 H1 E1 rd s1 u1 h1 => ?_
    cases d with
    | str s =>
      have h1 : Sat X.K H0 M0 A W (if s.length ≤ 1000 then Mp.R.ok (signsD s) e1 else .bad) e1 σ H1 (fun ds e1 H1 => ∀ J, Goes X.K (MM M0 e1 σ) (MM M0 e1 σ) H1 J ds → R J H1) := h1
      by_cases hl : s.length ≤ 1000
      · rw [if_pos hl] at h1
        exact ⟨s, rd.str, h1 H1 Stp.refl Sub.refl E1 _ goes_txt⟩
      · rw [if_neg hl] at h1; exact h1.elim
    | _ => exact h1.elim
theorem i_enum {e : Expr} {i : IR} {p pos tpos : Pos} {elts : List Expr} {kk : Nat} (hg : Gl X "enumerate") (hm : X.mg "enumerate" = none) (ha : PE X e (tI G W X.K i)) (hs : starB e = false) : PI X (.Tuple elts kk tpos) (.Call (.Name "enumerate" p) [e] [] pos) (tIi G W X.K (.enum i)) :=
  PI.by_ (pi_num hg hm (pa_cons ha pa_nil (star_cons hs)) (star_cons hs)) fun σ H R q => by
    obtain ⟨H0, M0, A, env, E, q⟩ := q
    rw [evi] at q
    refine take_read E q fun d v e1 H1 E1 rd s1 u1 h1 => ?_
    cases d with
    | lst ds =>
      unfold Rep at rd
      obtain ⟨a, xs, rfl, h, r⟩ := rd
      exact ⟨a, rfl, .inl ⟨xs, h.l, h1 H1 Stp.refl Sub.refl E1 _ (goes_enum (fun _ z => z) h r)⟩⟩
    | tup ds =>
      unfold Rep at rd
      obtain ⟨a, xs, rfl, nm, h, r⟩ := rd
      exact ⟨a, rfl, .inr ⟨xs, Rd.t h, h1 H1 Stp.refl Sub.refl E1 _ (goes_num (fun _ z => z) nm h r)⟩⟩
    | _ => exact h1.elim
end
end Mp
set_option maxHeartbeats 4000000
namespace Mp
open PySem L2
variable [TabsW] [GdW]
section
variable {K : PySem.W.Frag} {H0 H H' : Hp} {M0 A : AS} {env env' : Env} {σ σ' : L2.St}
/-- some cells are dropped, some hold data anew -/
theorem EnvR.re (E : EnvR K H0 M0 A env σ H) (hl : env'.length = σ'.length) (h : ∀ (j : Nat) (c : Cell), env'[j]? = some (some c) → (env[j]? = some (some c) ∧ σ'[j]? = σ[j]?) ∨ ∃ d v, c = .dat d ∧ σ'[j]? = some (some v) ∧ Rep K H (MM M0 env σ) d v) :
    EnvR K H0 M0 A env' σ' H ∧ ∀ a, MutAt env' σ' a → MutAt env σ a := by
  have sub : ∀ a, MutAt env' σ' a → MutAt env σ a := fun a ⟨j, ds, e1, e2⟩ => by
    rcases h j _ e1 with ⟨a1, a2⟩ | ⟨d, v, z, _⟩
    · exact ⟨j, ds, a1, a2 ▸ e2⟩
    · cases z
  have subM : ∀ a, MM M0 env' σ' a → MM M0 env σ a := fun a z => z.elim .inl fun q => .inr (sub a q)
  refine ⟨⟨hl, E.old, E.alive, E.tb, E.m0, E.aM, E.a1, fun j d e1 => ?_, fun j ds e1 => ?_, fun j ds e1 => ?_, fun j k b ds es e1 e2 e3 e4 => ?_, fun j k ds es e1 e2 => ?_, fun j C ns ds e1 => ?_⟩, sub⟩
  · rcases h j _ e1 with ⟨a1, a2⟩ | ⟨d', v, z, s, r⟩
    · obtain ⟨v, b1, b2⟩ := E.dat j d a1
      exact ⟨v, by rw [a2]; exact b1, Rep.stp Stp.refl subM d v b2⟩
    · cases z
      exact ⟨v, s, Rep.stp Stp.refl subM d v r⟩
  · rcases h j _ e1 with ⟨a1, a2⟩ | ⟨d', v, z, s, r⟩
    · obtain ⟨a, xs, b1, b2, b3, b4⟩ := E.own j ds a1
      exact ⟨a, xs, by rw [a2]; exact b1, b2, RepL.stp Stp.refl subM ds xs b3, b4⟩
    · cases z
  · rcases h j _ e1 with ⟨a1, a2⟩ | ⟨d', v, z, s, r⟩
    · obtain ⟨a, xs, b1, b2, b3, b4⟩ := E.io j ds a1
      exact ⟨a, xs, by rw [a2]; exact b1, b2, b3, RepL.stp Stp.refl subM ds xs b4⟩
    · cases z
  · rcases h j _ e1 with ⟨a1, a2⟩ | ⟨d', v, z, s, r⟩
    · rcases h k _ e2 with ⟨b1, b2⟩ | ⟨d', v, z, s, r⟩
      · exact E.inj j k b ds es a1 b1 (a2 ▸ e3) (b2 ▸ e4)
      · cases z
    · cases z
  · rcases h j _ e1 with ⟨a1, a2⟩ | ⟨d', v, z, s, r⟩
    · rcases h k _ e2 with ⟨b1, b2⟩ | ⟨d', v, z, s, r⟩
      · exact E.io1 j k ds es a1 b1
      · cases z
    · cases z
  · rcases h j _ e1 with ⟨a1, a2⟩ | ⟨d', v, z, s, r⟩
    · exact E.slf j C ns ds a1
    · cases z
theorem wipeE_len : ∀ (is : List Nat), (wipeE env is).length = env.length
  | [] => rfl
  | i :: is => by unfold wipeE; rw [List.length_set, wipeE_len is]
theorem backE_len {old : Env} : ∀ (is : List Nat), (backE old env is).length = env.length
  | [] => rfl
  | i :: is => by unfold backE; rw [List.length_set, backE_len is]
theorem wipeE_get {j : Nat} {c : Cell} : ∀ {is : List Nat}, (wipeE env is)[j]? = some (some c) → j ∉ is ∧ env[j]? = some (some c)
  | [], h => ⟨by simp, h⟩
  | i :: is, h => by
    unfold wipeE at h
    by_cases hj : i = j
    · subst hj
      by_cases hl : i < (wipeE env is).length
      · rw [List.getElem?_set_self hl] at h; cases h
      · rw [List.getElem?_eq_none (by rw [List.length_set]; omega)] at h; cases h
    · rw [List.getElem?_set_ne hj] at h
      obtain ⟨a, b⟩ := wipeE_get h
      exact ⟨by simp only [List.mem_cons, not_or]; exact ⟨fun z => hj z.symm, a⟩, b⟩
theorem wipeE_out {j : Nat} : ∀ {is : List Nat}, j ∉ is → (wipeE env is)[j]? = env[j]?
  | [], _ => rfl
  | i :: is, h => by
    simp only [List.mem_cons, not_or] at h
    unfold wipeE
    rw [List.getElem?_set_ne (fun z => h.1 z.symm), wipeE_out h.2]
theorem wipe_out {j : Nat} : ∀ {is : List Nat}, j ∉ is → (wipe σ is)[j]? = σ[j]?
  | [], _ => rfl
  | i :: is, h => by
    simp only [List.mem_cons, not_or] at h
    unfold wipe
    rw [List.getElem?_set_ne (fun z => h.1 z.symm), wipe_out h.2]
theorem wipe_in {j : Nat} : ∀ {is : List Nat}, j ∈ is → j < σ.length → (wipe σ is)[j]? = some none
  | i :: is, h, hl => by
    unfold wipe
    by_cases hj : i = j
    · subst hj
      rw [List.getElem?_set_self (by rw [wipe_length]; exact hl)]
    · rw [List.getElem?_set_ne hj]
      rcases List.mem_cons.mp h with e | h
      · exact absurd e.symm hj
      · exact wipe_in h hl
theorem wipe_eq {is : List Nat} (hl : σ.length = σ'.length) (h : ∀ j, j ∉ is → σ'[j]? = σ[j]?) : wipe σ' is = wipe σ is := by
  apply List.ext_getElem?
  intro j
  by_cases hj : j ∈ is
  · by_cases hlt : j < σ.length
    · rw [wipe_in hj hlt, wipe_in hj (by omega)]
    · rw [List.getElem?_eq_none (by rw [wipe_length]; omega), List.getElem?_eq_none (by rw [wipe_length]; omega)]
  · rw [wipe_out hj, wipe_out hj, h j hj]
theorem backE_get {old : Env} {j : Nat} {c : Cell} : ∀ {is : List Nat}, (backE old env is)[j]? = some (some c) → (j ∉ is ∧ env[j]? = some (some c)) ∨ (j ∈ is ∧ old[j]? = some (some c))
  | [], h => .inl ⟨by simp, h⟩
  | i :: is, h => by
    unfold backE at h
    by_cases hj : i = j
    · subst hj
      by_cases hl : i < (backE old env is).length
      · rw [List.getElem?_set_self hl] at h
        refine .inr ⟨by simp, ?_⟩
        cases e : old[i]? with
        | none => rw [e] at h; cases h
        | some o => rw [e] at h; cases h; rfl
      · rw [List.getElem?_eq_none (by rw [List.length_set]; omega)] at h; cases h
    · rw [List.getElem?_set_ne hj] at h
      rcases backE_get h with ⟨a, b⟩ | ⟨a, b⟩
      · exact .inl ⟨by simp only [List.mem_cons, not_or]; exact ⟨fun z => hj z.symm, a⟩, b⟩
      · exact .inr ⟨List.mem_cons_of_mem _ a, b⟩
theorem backE_in {old : Env} {j : Nat} {c : Cell} : ∀ {is : List Nat}, j ∈ is → j < env.length → old[j]? = some (some c) → (backE old env is)[j]? = some (some c)
  | i :: is, h, hl, e => by
    unfold backE
    by_cases hj : i = j
    · subst hj
      rw [List.getElem?_set_self (by rw [backE_len]; exact hl), e] <;> rfl
    · rw [List.getElem?_set_ne hj]
      rcases List.mem_cons.mp h with z | h
      · exact absurd z.symm hj
      · exact backE_in h hl e
theorem backE_out {old : Env} {j : Nat} : ∀ {is : List Nat}, j ∉ is → (backE old env is)[j]? = env[j]?
  | [], _ => rfl
  | i :: is, h => by
    simp only [List.mem_cons, not_or] at h
    unfold backE
    rw [List.getElem?_set_ne (fun z => h.1 z.symm), backE_out h.2]
/-- one slot holds data anew -/
theorem EnvR.setDat (E : EnvR K H0 M0 A env σ H) {i : Nat} {d : D} {v : V} (hi : i < env.length) (r : Rep K H (MM M0 env σ) d v) : EnvR K H0 M0 A (env.set i (some (.dat d))) (σ.set i (some v)) H ∧ ∀ a, MutAt (env.set i (some (.dat d))) (σ.set i (some v)) a → MutAt env σ a := by
  refine E.re (by rw [List.length_set, List.length_set]; exact E.len) fun j c h => ?_
  by_cases hj : i = j
  · subst hj
    rw [List.getElem?_set_self hi] at h
    cases h
    exact .inr ⟨d, v, rfl, by rw [List.getElem?_set_self (by rw [← E.len]; exact hi)], r⟩
  · rw [List.getElem?_set_ne hj] at h
    exact .inl ⟨h, by rw [List.getElem?_set_ne hj]⟩
theorem free_lt {i : Nat} (h : freeB env i = true) : i < env.length := by
  unfold freeB at h
  cases e : env[i]? with
  | none => rw [e] at h; cases h
  | some o => exact (List.getElem?_eq_some_iff.mp e).1
def gNames : List Nat → TGs
  | [] => gNil
  | i :: is => gCons (gName i) (gNames is)
/-- a tuple or a list is taken apart -/
def gTL (K : PySem.W.Frag) (n : Nat) (t : TGs) : TG := fun v σ H Q => gTup K n t v σ H Q ∨ gLst K n t v σ H Q
theorem pg_tl {X : Cx} {es : List Expr} {k : Nat} {t : TGs} {n : Nat} {pos : Pos} (hc : X.calm = true) (h : PGs X es t)
    (hn : (assignEach es X.env).length = n := by rfl) (hst : (assignEach es X.env).findIdx? (·.1) = none := by rfl) : PG X (.Tuple es k pos) (gTL X.K n t) := ⟨fun pins s σ H v u Q I r hw => hw.elim (fun q => (pg_tup hc h hn hst).run pins s σ H v u Q I r q) fun q => (pg_lst hc h hn hst).run pins s σ H v u Q I r q⟩
def gT (K : PySem.W.Frag) : Tgt → TG
  | .name i => gName i
  | .tup is => gTL K is.length (gNames is)
theorem names_read : ∀ (is : List Nat) (ds : List D) (xs : List V) (env : Env) (σ : L2.St) (P : L2.St → Hp → Prop), EnvR K H0 M0 A env σ H → is.all (freeB env) = true → ds.length = is.length → RepL K H (MM M0 env σ) ds xs →
    (∀ σ', EnvR K H0 M0 A ((is.zip ds).foldl (fun e p => e.set p.1 (some (.dat p.2))) env) σ' H → (∀ a, MutAt ((is.zip ds).foldl (fun e p => e.set p.1 (some (.dat p.2))) env) σ' a → MutAt env σ a) → σ'.length = σ.length → (∀ j, j ∉ is → σ'[j]? = σ[j]?) → P σ' H) → gNames is xs σ H P
  | [], ds, xs, env, σ, P, E, hf, hl, r, k => by
    have : ds = [] := by cases ds <;> simp_all
    subst this
    unfold RepL at r
    exact ⟨r, k σ E (fun _ z => z) rfl fun _ _ => rfl⟩
  | i :: is, [], xs, env, σ, P, E, hf, hl, r, k => by simp at hl
  | i :: is, d :: ds, xs, env, σ, P, E, hf, hl, r, k => by
    unfold RepL at r
    obtain ⟨x, ys, rfl, r1, r2⟩ := r
    rw [List.all_cons, Bool.and_eq_true] at hf
    have hi := free_lt hf.1
    obtain ⟨E1, u1⟩ := E.setDat hi r1
    refine ⟨x, ys, rfl, ?_⟩
    have hfree : is.all (freeB (env.set i (some (.dat d)))) = true := by
      rw [List.all_eq_true]
      intro j hj
      have := (List.all_eq_true.mp hf.2) j hj
      unfold freeB at this ⊢
      by_cases h : i = j
      · subst h; rw [List.getElem?_set_self hi]
      · rw [List.getElem?_set_ne h]; exact this
    refine names_read is ds ys (env.set i (some (.dat d))) (σ.set i (some x)) P E1 hfree (by simpa using hl) (RepL.stp Stp.refl (fun a z => z.elim .inl fun q => .inr (u1 a q)) ds ys r2) fun σ' E' u' l' o' => ?_
    refine k σ' E' (fun a z => u1 a (u' a z)) (by rw [l', List.length_set]) fun j hj => ?_
    simp only [List.mem_cons, not_or] at hj
    rw [o' j hj.2, List.getElem?_set_ne (fun z => hj.1 z.symm)]
theorem tgt_read {tg : Tgt} {d : D} {v : V} (E : EnvR K H0 M0 A env σ H) (hb : bindT tg d env = some env') (r : Rep K H (MM M0 env σ) d v) {P : L2.St → Hp → Prop}
    (k : ∀ σ', EnvR K H0 M0 A env' σ' H → (∀ a, MutAt env' σ' a → MutAt env σ a) → σ'.length = σ.length → (∀ j, j ∉ tgOwn tg → σ'[j]? = σ[j]?) → P σ' H) : gT K tg v σ H P := by
  cases tg with
  | name i =>
    unfold bindT at hb
    dsimp only at hb
    by_cases hf : freeB env i = true
    · rw [if_pos hf] at hb
      cases hb
      obtain ⟨E1, u1⟩ := E.setDat (free_lt hf) r
      refine k _ E1 u1 List.length_set fun j hj => ?_
      unfold tgOwn at hj
      rw [List.getElem?_set_ne (fun z => hj (by simp [z]))]
    · rw [if_neg hf] at hb; cases hb
  | tup is =>
    unfold bindT at hb
    dsimp only at hb
    cases d with
    | tup ds =>
      dsimp only at hb
      by_cases hc : ds.length = is.length ∧ is.all (freeB env) = true
      · rw [if_pos hc] at hb
        cases hb
        unfold Rep at r
        obtain ⟨a, xs, rfl, nm, h, rr⟩ := r
        exact .inl ⟨a, xs, rfl, Rd.t h, by rw [← rr.length]; exact hc.1, names_read is ds xs env σ P E hc.2 hc.1 rr k⟩
      · rw [if_neg hc] at hb; cases hb
    | lst ds =>
      dsimp only at hb
      by_cases hc : ds.length = is.length ∧ is.all (freeB env) = true
      · rw [if_pos hc] at hb
        cases hb
        unfold Rep at r
        obtain ⟨a, xs, rfl, h, rr⟩ := r
        exact .inr ⟨a, xs, rfl, h.l, by rw [← rr.length]; exact hc.1, names_read is ds xs env σ P E hc.2 hc.1 rr k⟩
      · rw [if_neg hc] at hb; cases hb
    | _ => cases hb
theorem foldl_out {j : Nat} : ∀ {is : List Nat} {ds : List D} {env : Env}, j ∉ is → ((is.zip ds).foldl (fun e p => e.set p.1 (some (Cell.dat p.2))) env)[j]? = env[j]?
  | [], ds, env, _ => rfl
  | i :: is, [], env, _ => rfl
  | i :: is, d :: ds, env, h => by
    simp only [List.mem_cons, not_or] at h
    show ((is.zip ds).foldl (fun e p => e.set p.1 (some (Cell.dat p.2))) (env.set i (some (Cell.dat d))))[j]? = env[j]?
    rw [foldl_out h.2, List.getElem?_set_ne (fun z => h.1 z.symm)]
theorem foldl_len : ∀ {is : List Nat} {ds : List D} {env : Env}, ((is.zip ds).foldl (fun e p => e.set p.1 (some (Cell.dat p.2))) env).length = env.length
  | [], ds, env => rfl
  | i :: is, [], env => rfl
  | i :: is, d :: ds, env => by
    show ((is.zip ds).foldl (fun e p => e.set p.1 (some (Cell.dat p.2))) (env.set i (some (Cell.dat d)))).length = env.length
    rw [foldl_len, List.length_set]
theorem bind_out {tg : Tgt} {d : D} {env env1 : Env} (h : bindT tg d env = some env1) : (∀ j, j ∉ tgOwn tg → env1[j]? = env[j]?) ∧ env1.length = env.length := by
  cases tg with
  | name i =>
    unfold bindT at h
    dsimp only at h
    by_cases hf : freeB env i = true
    · rw [if_pos hf] at h; cases h
      refine ⟨fun j hj => ?_, List.length_set⟩
      unfold tgOwn at hj
      rw [List.getElem?_set_ne (fun z => hj (by simp [z]))]
    · rw [if_neg hf] at h; cases h
  | tup is =>
    unfold bindT at h
    dsimp only at h
    cases d with
    | tup ds =>
      dsimp only at h
      by_cases hc : ds.length = is.length ∧ is.all (freeB env) = true
      · rw [if_pos hc] at h; cases h
        exact ⟨fun j hj => foldl_out hj, foldl_len⟩
      · rw [if_neg hc] at h; cases h
    | lst ds =>
      dsimp only at h
      by_cases hc : ds.length = is.length ∧ is.all (freeB env) = true
      · rw [if_pos hc] at h; cases h
        exact ⟨fun j hj => foldl_out hj, foldl_len⟩
      · rw [if_neg hc] at h; cases h
    | _ => cases h
end
end Mp
set_option maxHeartbeats 4000000
namespace Mp
open PySem L2
variable [TabsW] [GdW]
def wNo : WX := fun _ _ _ _ => False
section
variable {K : PySem.W.Frag} {H0 H H' : Hp} {M0 A : AS} {env env' : Env} {σ σ' : L2.St} {W W' : WX}
theorem Sat.noExc {α : Type} {r : R α} {P : α → Env → Hp → Prop} (h : Sat K H0 M0 A W (Mp.noExc r) env σ H P) : Sat K H0 M0 A W' r env σ H P := by
  cases r with
  | bad => exact h
  | exc C n d e => exact h.elim
  | ok o e => exact h
/-- one more address set apart: it is new -/
theorem EnvR.apart (E : EnvR K H0 M0 A env σ H) {p : Addr} {o : HO} (hp : H p = none) (ho : NT o := by first | exact nt_lst | exact nt_ins | exact nt_tup) : EnvR K H0 (fun a => M0 a ∨ a = p) A env σ (upd H p o) := by
  have E' := E.new (o := o) hp
  obtain ⟨n1, n2⟩ := E.fresh hp
  have g : ∀ x, MM (fun a => M0 a ∨ a = p) env σ x → MM M0 env σ x ∨ ¬ Lv H x := fun x z => by
    rcases z with (z | z) | z
    · exact .inl (.inl z)
    · exact .inr (by rw [z]; exact nn_of hp)
    · exact .inl (.inr z)
  have st : Stp (fun _ : Addr => False) H (upd H p o) := Stp.new hp
  refine ⟨E.len, E'.old, E'.alive, E'.tb, fun a h => ?_, fun a h => .inl (E.aM a h), E.a1, fun i d h => ?_, fun i ds h => ?_, fun i ds h => ?_, E.inj, E.io1, E.slf⟩
  · rcases h with h | h
    · exact E'.m0 a h
    · rw [h]; exact ⟨o, upd_same, ho⟩
  · obtain ⟨v, a1, a2⟩ := E.dat i d h
    exact ⟨v, a1, Rep.stp (Stp.new hp) (fun _ z => z) d v (Rep.grow g d v a2)⟩
  · obtain ⟨a, xs, a1, a2, a3, a4, a5⟩ := E.own i ds h
    refine ⟨a, xs, a1, by rw [upd_ne (ne_of_none a2 hp)]; exact a2, RepL.stp (Stp.new hp) (fun _ z => z) ds xs (RepL.grow g ds xs a3), fun z => ?_, a5⟩
    rcases z with z | z
    · exact a4 z
    · exact ne_of_none a2 hp z
  · obtain ⟨a, xs, a1, a2, a3, a4⟩ := E.io i ds h
    exact ⟨a, xs, a1, a2, by rw [upd_ne (ne_of_none a3 hp)]; exact a3, RepL.stp (Stp.new hp) (fun _ z => z) ds xs (RepL.grow g ds xs a4)⟩
/-- what stands apart may change -/
theorem EnvR.setM (E : EnvR K H0 M0 A env σ H) {p : Addr} {o : HO} (hpl : ∀ u, H p = some u → Pl u) (hp : M0 p) (ha : ¬ A p) (h0 : ¬ Lv H0 p) (ho : NT o := by first | exact nt_lst | exact nt_ins | exact nt_tup) : EnvR K H0 M0 A env σ (upd H p o) := by
  have st : Stp (MM M0 env σ) H (upd H p o) := Stp.set (.inl hp) hpl ho
  refine ⟨E.len, fun a u e n t => ?_, fun a h => mo_upd ho a (E.alive a h), fun P q h => tab_upd hpl P q (E.tb P q h), fun a h => mo_upd ho a (E.m0 a h), E.aM, E.a1, fun i d h => ?_, fun i ds h => ?_, fun i ds h => ?_, E.inj, E.io1, E.slf⟩
  · rw [upd_ne (fun z => h0 ⟨u, by rw [← z]; exact e, t⟩)]
    exact E.old a u e n t
  · obtain ⟨v, a1, a2⟩ := E.dat i d h
    exact ⟨v, a1, Rep.stp st (fun _ z => z) d v a2⟩
  · obtain ⟨a, xs, a1, a2, a3, a4, a5⟩ := E.own i ds h
    exact ⟨a, xs, a1, by rw [upd_ne (fun z => a4 (by rw [z]; exact hp))]; exact a2, RepL.stp st (fun _ z => z) ds xs a3, a4, a5⟩
  · obtain ⟨a, xs, a1, a2, a3, a4⟩ := E.io i ds h
    exact ⟨a, xs, a1, a2, by rw [upd_ne (fun z => ha (by rw [← z]; exact a2))]; exact a3, RepL.stp st (fun _ z => z) ds xs a4⟩
/-- less is set apart -/
theorem EnvR.less {M1 : AS} (E : EnvR K H0 M0 A env σ H) (h : ∀ a, M1 a → M0 a) (hA : ∀ a, A a → M1 a) : EnvR K H0 M1 A env σ H := by
  have g : ∀ x, MM M1 env σ x → MM M0 env σ x := fun x z => z.elim (fun q => .inl (h x q)) .inr
  refine ⟨E.len, E.old, E.alive, E.tb, fun a z => E.m0 a (h a z), hA, E.a1, fun i d e => ?_, fun i ds e => ?_, fun i ds e => ?_, E.inj, E.io1, E.slf⟩
  · obtain ⟨v, a1, a2⟩ := E.dat i d e
    exact ⟨v, a1, Rep.stp Stp.refl g d v a2⟩
  · obtain ⟨a, xs, a1, a2, a3, a4, a5⟩ := E.own i ds e
    exact ⟨a, xs, a1, a2, RepL.stp Stp.refl g ds xs a3, fun z => a4 (h a z), a5⟩
  · obtain ⟨a, xs, a1, a2, a3, a4⟩ := E.io i ds e
    exact ⟨a, xs, a1, a2, a3, RepL.stp Stp.refl g ds xs a4⟩
/-- some slots are hidden -/
theorem EnvR.wipe (E : EnvR K H0 M0 A env σ H) (is : List Nat) : EnvR K H0 M0 A (wipeE env is) (L2.wipe σ is) H ∧ ∀ a, MutAt (wipeE env is) (L2.wipe σ is) a → MutAt env σ a :=
  E.re (by rw [wipeE_len, wipe_length]; exact E.len) fun j c h => by
    obtain ⟨a, b⟩ := wipeE_get h
    exact .inl ⟨b, wipe_out a⟩
end
section
variable {X : Cx} {G : Ctx} {W : WX}
def tIf' (G : Ctx) (W : WX) (K : PySem.W.Frag) : Option IR → TT
  | none => tYes
  | some t => tIt G W K t
theorem lc_run {own : List Nat} {tg : Tgt} {T : Option (Env → R Bool)} {ee : Env → R D} {d : D} {ds : List D} {env : Env} {xs : List D} {e2 : Env} (h : lcLoop own tg T ee (d :: ds) env = .ok xs e2) :
    ∃ env1 b env2, bindT tg d (wipeE env own) = some env1 ∧ ((T = none ∧ b = true ∧ env2 = env1) ∨ ∃ t, T = some t ∧ t env1 = .ok b env2) ∧
        ((b = true ∧ ∃ x env3 ys, ee env2 = .ok x env3 ∧ lcLoop own tg T ee ds env3 = .ok ys e2 ∧ xs = x :: ys) ∨ (b = false ∧ lcLoop own tg T ee ds env2 = .ok xs e2)) := by
  unfold lcLoop at h
  cases hb : bindT tg d (wipeE env own) with
  | none => rw [hb] at h; cases h
  | some env1 =>
    rw [hb] at h
    dsimp only at h
    have main : ∀ (r : R Bool), (r.bind fun b env2 => if b = true then (ee env2).bind fun x env3 => (lcLoop own tg T ee ds env3).bind fun xs env4 => .ok (x :: xs) env4 else lcLoop own tg T ee ds env2) = .ok xs e2 →
        ∃ b env2, r = .ok b env2 ∧ ((b = true ∧ ∃ x env3 ys, ee env2 = .ok x env3 ∧ lcLoop own tg T ee ds env3 = .ok ys e2 ∧ xs = x :: ys) ∨ (b = false ∧ lcLoop own tg T ee ds env2 = .ok xs e2)) := fun r h => by
      cases r with
      | bad => cases h
      | exc C f d e => cases h
      | ok b env2 =>
        refine ⟨b, env2, rfl, ?_⟩
        cases b with
        | false => exact .inr ⟨rfl, h⟩
        | true =>
          have h : ((ee env2).bind fun x env3 => (lcLoop own tg T ee ds env3).bind fun xs env4 => R.ok (x :: xs) env4) = .ok xs e2 := h
          refine .inl ⟨rfl, ?_⟩
          cases h1 : ee env2 with
          | bad => rw [h1] at h; cases h
          | exc C f d e => rw [h1] at h; cases h
          | ok x env3 =>
            rw [h1] at h
            have h : ((lcLoop own tg T ee ds env3).bind fun xs env4 => R.ok (x :: xs) env4) = .ok xs e2 := h
            cases h2 : lcLoop own tg T ee ds env3 with
            | bad => rw [h2] at h; cases h
            | exc C f d e => rw [h2] at h; cases h
            | ok ys e4 => rw [h2] at h; cases h; exact ⟨x, env3, ys, rfl, h2, rfl⟩
    cases T with
    | none =>
      obtain ⟨b, env2, e1, e3⟩ := main (R.ok true env1) h
      cases e1
      exact ⟨env1, true, env1, rfl, .inl ⟨rfl, rfl, rfl⟩, e3⟩
    | some t =>
      obtain ⟨b, env2, e1, e3⟩ := main (t env1) h
      exact ⟨env1, b, env2, rfl, .inr ⟨t, rfl, e1⟩, e3⟩
def tsF (G : Ctx) : Option IR → Option (Env → R Bool)
  | none => none
  | some t => some fun x => truR (ev G t x)
/-- the state between two turns -/
structure LcAt (G : Ctx) (K : PySem.W.Frag) (H0 H1 : Hp) (M0 A : AS) (e1 : Env) (σ : L2.St) (own : List Nat) (tg : Tgt) (t : Option IR) (e : IR) (Dl : Addr) (ds xs : List D) (e2 : Env) (i : Nat) (H : Hp) : Prop where
  ex : ∃ (envI : Env) (acc rest : List D) (ys : List V), H Dl = some (.lst ys) ∧ ys.length ≤ i ∧ EnvR K H0 (fun a => M0 a ∨ a = Dl) A (wipeE envI own) (L2.wipe σ own) H ∧ RepL K H (MM (fun a => M0 a ∨ a = Dl) (wipeE envI own) (L2.wipe σ own)) acc ys ∧
    xs = acc ++ rest ∧ lcLoop own tg (tsF G t) (fun x => (ev G e x).take) (ds.drop i) envI = .ok rest e2 ∧ Stp (WW A e1 σ) H1 H ∧ (∀ a, MutAt (wipeE envI own) (L2.wipe σ own) a → MutAt e1 σ a) ∧
    (∀ (j : Nat) (c : Cell), j ∉ own → e1[j]? = some (some c) → ∃ c', envI[j]? = some (some c')) ∧ (∀ (j : Nat) (ds : List D), j ∉ own → envI[j]? = some (some (Cell.io ds)) → ∃ es, e1[j]? = some (some (Cell.io es))) ∧ envI.length = e1.length
theorem lc_reads {K : PySem.W.Frag} {H0 H1 : Hp} {M0 A : AS} {e1 : Env} {σ : L2.St} {own : List Nat} {tg : Tgt} {t : Option IR} {e : IR} {ds xs : List D} {e2 : Env} {Q : VK} {J : L2.It} {Dl : Addr} (E1 : EnvR K H0 M0 A e1 σ H1) (hown : ∀ j, j ∈ tgOwn tg → j ∈ own) (hide : own.all (hideB e1) = true)
    (gJ : Goes K (MM M0 e1 σ) (WW A e1 σ) H1 J ds) (hD : H1 Dl = none) (hlen : ds.length ≤ BIG) (hrun : lcLoop own tg (tsF G t) (fun x => (ev G e x).take) ds e1 = .ok xs e2)
    (fin : ∀ H', Stp (WW A e1 σ) H1 H' → Sub σ e1 (backE e1 e2 own) → EnvR K H0 M0 A (backE e1 e2 own) σ H' → Rep K H' (MM M0 (backE e1 e2 own) σ) (.lst xs) (.ref Dl) → Q (.ref Dl) H') :
    ∃ Wd : Nat → Nat → Hp → Prop, (∃ m, Wd 0 m (upd H1 Dl (.lst []))) ∧ ∀ i m H, Wd i m H →
      (J.stop i H ∧ Q (.ref Dl) H) ∨ (J.go i H ∧ ∃ Nx : Hp → Prop, (∀ H', Nx H' → ∃ m', m' < m ∧ Wd (i + 1) m' H') ∧ ∀ x H', J.yld i H x H' → gT K tg x (L2.wipe σ own) H' fun σ2 H2 => L2.wipe σ2 own = L2.wipe σ own ∧ tIf' G wNo K t σ2 H2 fun b H3 =>
        if b = true then tI G wNo K e σ2 H3 fun y H4 => ∃ acc, H4 Dl = some (.lst acc) ∧ acc.length < sizeLine ∧ Nx (upd H4 Dl (.lst (acc ++ [y]))) else Nx H3) := by
  obtain ⟨Gd, Y, wk, hGd, hY⟩ := gJ
  have hs : sizeLine = 16777216 := sizeLine_eq
  have fr := E1.fresh hD
  have nA : ¬ A Dl := fun z => (E1.m0 Dl (E1.aM Dl z)).ne hD
  refine lc_it wk (LcAt G K H0 H1 M0 A e1 σ own tg t e Dl ds xs e2) ⟨e1, [], xs, [], upd_same, Nat.zero_le _, ((E1.wipe own).1).apart hD, RepL.nil, rfl, hrun, Stp.new hD, (E1.wipe own).2, fun j c _ h => ⟨c, h⟩, fun j ds _ h => ⟨ds, h⟩, rfl⟩ (fun i H _ p => ?_) (fun i x H H' hi p y => ?_) fun H p => ?_
  · obtain ⟨_, _, _, _, _, _, _, _, _, _, s, _⟩ := p.ex
    exact hGd H s
  · obtain ⟨envI, acc, rest, ys, hH, hyl, EI, rI, ex, run, s, mI, th, iom, el⟩ := p.ex
    have hM : ∀ a, MM (fun a => M0 a ∨ a = Dl) (wipeE envI own) (L2.wipe σ own) a → (MM M0 e1 σ a ∨ ¬ Lv H1 a) ∧ Lv H a := fun a z => by
      refine ⟨?_, ?_⟩
      · rcases z with (z | z) | z
        · exact .inl (.inl z)
        · exact .inr (by rw [z]; exact nn_of hD)
        · exact .inl (.inr (mI a z))
      · rcases z with z | ⟨j, es, z1, z2⟩
        · exact EI.m0 a z
        · obtain ⟨b, zs, b1, b2, _⟩ := EI.own j es z1
          rw [z2] at b1; cases b1
          exact Lv.lst b2
    obtain ⟨st, d, hd, rd⟩ := hY i H x H' _ hi s hM y
    have hdrop : ds.drop i = d :: ds.drop (i + 1) := by
      rw [List.drop_eq_getElem_cons hi]
      congr 1
      have := List.getElem?_eq_getElem hi
      rw [hd] at this; exact (Option.some.inj this).symm
    rw [hdrop] at run
    obtain ⟨env1, b, env2, hb, ht, hr⟩ := lc_run run
    have EI' := EI.keep st
    have wl : (L2.wipe σ own).length = σ.length := wipe_length σ own
    -- the target
    refine tgt_read EI' hb rd fun σ' E' u' l' o' => ?_
    have hw : L2.wipe σ' own = L2.wipe σ own := by
      have : L2.wipe σ' own = L2.wipe (L2.wipe σ own) own := wipe_eq l'.symm fun j hj => o' j fun z => hj (hown j z)
      rw [this]
      exact wipe_eq wl.symm fun j hj => wipe_out hj
    refine ⟨hw, ?_⟩
    have nDl : ∀ {ev : Env} {τ : L2.St} {h : Hp}, EnvR K H0 (fun a => M0 a ∨ a = Dl) A ev τ h → ¬ WW A ev τ Dl := fun {ev τ h} E z => by
      rcases z with z | ⟨j, es, z1, z2⟩
      · exact nA z
      · obtain ⟨b, zs, b1, _, _, b4, _⟩ := E.own j es z1
        rw [z2] at b1; cases b1
        exact b4 (.inr rfl)
    have wI : ∀ a, WW A env1 σ' a → MM (fun a => M0 a ∨ a = Dl) (wipeE envI own) (L2.wipe σ own) a := fun a z => z.elim (fun q => .inl (.inl (E1.aM a q))) fun q => .inr (u' a q)
    have w1 : ∀ a, WW A env1 σ' a → WW A e1 σ a := fun a z => z.elim .inl fun q => .inr (mI a (u' a q))
    have cellOut : ∀ j, j ∉ own → env1[j]? = envI[j]? := fun j hj => by rw [(bind_out hb).1 j fun z => hj (hown j z), wipeE_out hj]
    have lenOut : env1.length = envI.length := by rw [(bind_out hb).2, wipeE_len]
    -- behind the test
    have cont : ∀ H3, Stp (WW A env1 σ') H' H3 → Sub σ' env1 env2 → EnvR K H0 (fun a => M0 a ∨ a = Dl) A env2 σ' H3 → if b = true then tI G wNo K e σ' H3 (fun y H4 => ∃ acc, H4 Dl = some (.lst acc) ∧ acc.length < sizeLine ∧ LcAt G K H0 H1 M0 A e1 σ own tg t e Dl ds xs e2 (i + 1) (upd H4 Dl (.lst (acc ++ [y]))))
        else LcAt G K H0 H1 M0 A e1 σ own tg t e Dl ds xs e2 (i + 1) H3 := fun H3 s2 u2 E2 => by
      have hH3 : H3 Dl = some (.lst ys) := s2.st Dl _ (st.st Dl _ hH id nt_lst) (nDl E') nt_lst
      have t3 : Stp (MM (fun a => M0 a ∨ a = Dl) (wipeE envI own) (L2.wipe σ own)) H H3 := st.no.trans (s2.weak wI)
      have t3' : Stp (WW A e1 σ) H1 H3 := (s.trans st.no).trans (s2.weak w1)
      rcases hr with ⟨rfl, x0, env3, ys', he, hrun', hxs⟩ | ⟨rfl, hrun'⟩
      · rw [if_pos rfl]
        refine take_read (f := fun d e => .ok d e) (P := fun d e _ => d = x0 ∧ e = env3) E2 (by rw [he]; exact fun _ _ _ _ => ⟨rfl, rfl⟩) fun d' v e' H4 E4 rd4 s4 u4 h4 => ?_
        obtain ⟨rfl, rfl⟩ := h4 H4 Stp.refl Sub.refl E4
        have hH4 : H4 Dl = some (.lst ys) := s4.st Dl _ hH3 (nDl E2) nt_lst
        refine ⟨ys, hH4, by unfold BIG at hlen; omega, ?_⟩
        have E5 := (E4.setM (o := .lst (ys ++ [v])) (pl_at hH4) (.inr rfl) nA fr.2).wipe own
        rw [hw] at E5
        have m5 : ∀ a, MutAt (wipeE e' own) (L2.wipe σ own) a → MutAt (wipeE envI own) (L2.wipe σ own) a := fun a z => u' a (u2.own a (u4.own a (E5.2 a z)))
        have M5 : ∀ a, MM (fun a => M0 a ∨ a = Dl) (wipeE e' own) (L2.wipe σ own) a → MM (fun a => M0 a ∨ a = Dl) (wipeE envI own) (L2.wipe σ own) a := fun a z => z.elim .inl fun q => .inr (m5 a q)
        have w2 : ∀ a, WW A env2 σ' a → WW A env1 σ' a := fun a z => z.elim .inl fun q => .inr (u2.own a q)
        have t4 := t3.trans (s4.weak fun a z => wI a (w2 a z))
        have t4' := t3'.trans (s4.weak fun a z => w1 a (w2 a z))
        refine ⟨e', acc ++ [d'], ys', ys ++ [v], upd_same, by rw [List.length_append]; simp only [List.length_singleton]; omega, E5.1, ?_, by rw [ex, hxs, List.append_assoc]; rfl, hrun', ⟨fun a o h n t => ?_, fun a h => mo_upd nt_lst a (t4'.mo a h), fun P q m h => tab_upd (pl_at hH4) P q (t4'.tb P q m h)⟩, fun a z => mI a (m5 a z), fun j c hj h => ?_, fun j es hj h => ?_, ?_⟩
        · refine RepL.append ?_ (RepL.cons ?_ RepL.nil)
          · exact RepL.stp (t4.trans (Stp.set (.inl (.inr rfl)) (pl_at hH4))) M5 acc ys rI
          · exact Rep.stp (M := MM (fun a => M0 a ∨ a = Dl) e' σ') (Stp.set (.inl (.inr rfl)) (pl_at hH4)) (fun a z => z.elim .inl fun q => .inr (E5.2 a q)) d' v rd4
        · rw [upd_ne (ne_of_none h hD)]
          exact t4'.st a o h n t
        · obtain ⟨c1, h1⟩ := th j c hj h
          obtain ⟨c2, h2⟩ := u2.there j c1 (by rw [cellOut j hj]; exact h1)
          exact u4.there j c2 h2
        · obtain ⟨es2, h2⟩ := u4.io j es h
          obtain ⟨es1, h1⟩ := u2.io j es2 h2
          rw [cellOut j hj] at h1
          exact iom j es1 hj h1
        · rw [u4.len, u2.len, lenOut, el]
      · rw [if_neg Bool.false_ne_true]
        have E5 := E2.wipe own
        rw [hw] at E5
        have m5 : ∀ a, MutAt (wipeE env2 own) (L2.wipe σ own) a → MutAt (wipeE envI own) (L2.wipe σ own) a := fun a z => u' a (u2.own a (E5.2 a z))
        have M5 : ∀ a, MM (fun a => M0 a ∨ a = Dl) (wipeE env2 own) (L2.wipe σ own) a → MM (fun a => M0 a ∨ a = Dl) (wipeE envI own) (L2.wipe σ own) a := fun a z => z.elim .inl fun q => .inr (m5 a q)
        refine ⟨env2, acc, rest, ys, hH3, by omega, E5.1, RepL.stp t3 M5 acc ys rI, ex, hrun', t3', fun a z => mI a (m5 a z), fun j c hj h => ?_, fun j es hj h => ?_, ?_⟩
        · obtain ⟨c1, h1⟩ := th j c hj h
          exact u2.there j c1 (by rw [cellOut j hj]; exact h1)
        · obtain ⟨es1, h1⟩ := u2.io j es h
          rw [cellOut j hj] at h1
          exact iom j es1 hj h1
        · rw [u2.len, lenOut, el]
    rcases ht with ⟨z1, rfl, rfl⟩ | ⟨t0, z1, z2⟩
    · have tn : t = none := by cases t with
        | none => rfl
        | some _ => cases z1
      subst tn
      exact cont H' Stp.refl Sub.refl E'
    · cases t with
      | none => cases z1
      | some t' =>
        cases z1
        exact ⟨H0, _, A, env1, E', by (have z3 : truR (ev G t' env1) = .ok b env2 := z2); rw [z3]; exact fun H3 s2 u2 E2 => cont H3 s2 u2 E2⟩
  · obtain ⟨envI, acc, rest, ys, hH, hyl, EI, rI, ex, run, s, mI, th, iom, el⟩ := p.ex
    rw [List.drop_length] at run
    unfold lcLoop at run
    cases run
    have hD' : ∀ j, j ∈ own → e1[j]? = some none ∨ ∃ d, e1[j]? = some (some (.dat d)) := fun j hj => by
      have h := (List.all_eq_true.mp hide) j hj
      unfold hideB at h
      cases q : e1[j]? with
      | none => rw [q] at h; cases h
      | some o =>
        rw [q] at h
        cases o with
        | none => exact .inl rfl
        | some c =>
          cases c with
          | dat d => exact .inr ⟨d, rfl⟩
          | _ => cases h
    have mB : ∀ a, MutAt (backE e1 e2 own) σ a → MutAt (wipeE e2 own) (L2.wipe σ own) a := fun a ⟨j, es, z1, z2⟩ => by
      rcases backE_get z1 with ⟨b1, b2⟩ | ⟨b1, b2⟩
      · exact ⟨j, es, by rw [wipeE_out b1]; exact b2, by rw [wipe_out b1]; exact z2⟩
      · rcases hD' j b1 with c1 | ⟨d, c1⟩ <;> (rw [c1] at b2; cases b2)
    obtain ⟨E2, _⟩ := EI.re (env' := backE e1 e2 own) (σ' := σ) (by rw [backE_len, el]; exact E1.len) fun j c h => by
      rcases backE_get h with ⟨b1, b2⟩ | ⟨b1, b2⟩
      · exact .inl ⟨by rw [wipeE_out b1]; exact b2, (wipe_out b1).symm⟩
      · rcases hD' j b1 with c1 | ⟨d, c1⟩
        · rw [c1] at b2; cases b2
        · rw [c1] at b2; cases b2
          obtain ⟨v, v1, v2⟩ := E1.dat j d c1
          refine .inr ⟨d, v, rfl, v1, ?_⟩
          have g : Rep K H1 (fun a => MM M0 e1 σ a ∨ a = Dl) d v := Rep.grow (fun a z => z.elim .inl fun q => .inr (by rw [q]; exact nn_of hD)) d v v2
          refine Rep.stp (s.weak fun a z => .inl (WW.sub E1.aM a z)) (fun a z => ?_) d v g
          rcases z with (z | z) | z
          · exact .inl (.inl z)
          · exact .inr z
          · exact .inl (.inr (mI a z))
    have E3 := E2.less (M1 := M0) (fun a z => .inl z) E1.aM
    refine fin H s ⟨fun a z => mI a (mB a z), fun j c h => ?_, fun j es h => ?_, by rw [backE_len, el]⟩ E3 ?_
    · by_cases hj : j ∈ own
      · exact ⟨c, backE_in hj (by rw [el]; exact (List.getElem?_eq_some_iff.mp h).1) h⟩
      · obtain ⟨c', h'⟩ := th j c hj h
        exact ⟨c', by rw [backE_out hj]; exact h'⟩
    · rcases backE_get h with ⟨b1, b2⟩ | ⟨b1, b2⟩
      · exact iom j es b1 b2
      · exact ⟨es, b2⟩
    · unfold Rep
      refine ⟨Dl, ys, rfl, .inl ⟨fun z => ?_, Rd.of hH⟩, ?_⟩
      · rcases z with z | ⟨j, es, z1, z2⟩
        · exact (E1.m0 Dl z).ne hD
        · obtain ⟨b, zs, b1, _, _, b4, _⟩ := E2.own j es z1
          rw [z2] at b1; cases b1
          exact b4 (.inr rfl)
      · rw [ex, List.append_nil]
        refine RepL.stp Stp.refl (fun a z => ?_) acc ys rI
        rcases z with z | z
        · exact .inl (.inl z)
        · exact .inr (mB a z)
end
end Mp
set_option maxHeartbeats 4000000
namespace Mp
open PySem L2
variable [TabsW] [GdW]
section
variable {X : Cx} {G : Ctx} {W : WX}
theorem ev_lc {tg : Tgt} {it : IT} {t : Option IR} {e : IR} {own : List Nat} {env : Env} : ev G (.lc tg it t e own) env = (noExc (evi G it env)).bind fun ds e1 => if ds.length ≤ BIG ∧ own.all (hideB e1) = true ∧ (tgOwn tg).all (fun i => own.contains i) = true then
        (noExc (lcLoop own tg (tsF G t) (fun x => (ev G e x).take) ds e1)).bind fun xs e2 => .ok (.val (.lst xs)) (backE e1 e2 own) else .bad := by
  cases t <;> (rw [ev.eq_def]; rfl)
theorem lc_imp {K : PySem.W.Frag} {tg : Tgt} {it : IT} {t : Option IR} {e : IR} {own : List Nat} {σ : L2.St} {H : Hp} {Q : VK} (q : tI G W K (.lc tg it t e own) σ H Q) : tLc (tIi G W K it) (gT K tg) (tIf' G wNo K t) (tI G wNo K e) own σ H Q := by
  obtain ⟨H0, M0, A, env, E, q⟩ := q
  rw [ev_lc] at q
  refine ⟨H0, M0, A, env, E, (Sat.noExc (W' := W) (Sat.bind q)).mono fun ds e1 H1 _ s1 u1 E1 h1 J gJ D hD => ?_⟩
  by_cases hcn : ds.length ≤ BIG ∧ own.all (hideB e1) = true ∧ (tgOwn tg).all (fun i => own.contains i) = true
  · rw [if_pos hcn] at h1
    cases hr : lcLoop own tg (tsF G t) (fun x => (ev G e x).take) ds e1 with
    | bad => rw [hr] at h1; exact h1.elim
    | exc C f d e2 => rw [hr] at h1; exact h1.elim
    | ok xs e2 =>
      rw [hr] at h1
      exact lc_reads E1 (fun j hj => by simpa using (List.all_eq_true.mp hcn.2.2) j hj) hcn.2.1 (gJ.weak (WW.sub E1.aM)) hD hcn.1 hr fun H' st sb E' r => h1 H' st sb E' _ r
  · rw [if_neg hcn] at h1; exact h1.elim
theorem e_lc {elt tgE iter : Expr} {ifs : List Expr} {scope : Scope} {own : List (Str × Nat)} {pos : Pos} {tg : Tgt} {it : IT} {t : Option IR} {e : IR} (hc : X.calm = true) (hN : X.N.Nodup) (hi : PI X tgE iter (tIi G W X.K it)) (ok : BlkOk X.N X.env.scope scope own)
    (hg : ∀ (s : Shared) (H : Hp) (C : Addr) (cl : List (Str × Addr)) (fp : List Addr), PG (X.blk s H scope (compEnvC scope cl C X.env) fp) tgE (gT X.K tg)) (ht : ∀ (s : Shared) (H : Hp) (C : Addr) (cl : List (Str × Addr)) (fp : List Addr), PTs (X.blk s H scope (compEnvC scope cl C X.env) fp) ifs (tIf' G wNo X.K t))
    (he : ∀ (s : Shared) (H : Hp) (C : Addr) (cl : List (Str × Addr)) (fp : List Addr), PE (X.blk s H scope (compEnvC scope cl C X.env) fp) elt (tI G wNo X.K e)) (hs : ∀ x, foldedSetIterable iter X.env x = pure x) :
    PE X (.ListComp elt [⟨tgE, iter, ifs, 0⟩] scope pos) (tI G W X.K (.lc tg it t e (own.map (·.2)))) := PE.by_ (pe_lc hc hN hi ok hg ht he hs) fun σ H Q q => lc_imp q
/-- an own class whose values' class is known -/
structure IsC (K : PySem.W.Frag) (C : Str) : Prop where
  cl : Cls K (clsAt K C)
  ha : PySem.W.findIn K (.ref (clsAt K C)) "__class__" = some (some (.builtin "object.__class__"))
  hn : PySem.W.specialIn K (.builtin "object.__class__") "__get__" = some (some (.builtin "getset_descriptor.__get__"))
  ht : PySem.W.takesIn K (.builtin "object.__class__") = some true
  hm : PySem.W.mroIn K (clsAt K C) (.type "object") = some true
structure IsK (K : PySem.W.Frag) (cs : List Str) (T : Ty) (u : Value) : Prop where
  n : PySem.W.kitOne K (.type "NoneType") u = some (tyD T .non)
  b : PySem.W.kitOne K (.type "bool") u = some (tyD T (.bl true))
  i : PySem.W.kitOne K (.type "int") u = some (tyD T (.int 0))
  s : PySem.W.kitOne K (.type "str") u = some (tyD T (.str Str.empty))
  l : PySem.W.kitOne K (.type "list") u = some (tyD T (.lst []))
  t : PySem.W.kitOne K (.type "tuple") u = some (tyD T (.tup []))
  d : PySem.W.kitOne K (.type "dict") u = some (tyD T .dct)
  c : ∀ C, C ∈ cs → PySem.W.kitOne K (.ref (clsAt K C)) u = some (tyD T (.obj C [] []))
theorem is_read {K : PySem.W.Frag} {cs : List Str} (hc : ∀ C, C ∈ cs → IsC K C) {H : Hp} {M : AS} {d : D} {v : V} (r : RepT K H M d v) (k : knownB cs d = true) : ∃ t, TyX K H v t ∧ ∀ T u, IsK K cs T u → PySem.W.kitOne K t u = some (tyD T d) := by
  cases d with
  | non => rw [r.non]; exact ⟨_, .base .non, fun T u h => h.n⟩
  | bl b => rw [r.bl]; exact ⟨_, .base (.bl b), fun T u h => by rw [h.b]; cases T <;> rfl⟩
  | int i => rw [r.int]; exact ⟨_, .base (.int i), fun T u h => by rw [h.i]; cases T <;> rfl⟩
  | str i => rw [r.str]; exact ⟨_, .base (.str i), fun T u h => by rw [h.s]; cases T <;> rfl⟩
  | lst ds =>
    obtain ⟨a, xs, rfl, h, _⟩ := r
    refine ⟨.type "list", ?_, fun T u h => by rw [h.l]; cases T <;> rfl⟩
    rcases h with (h | ⟨o, h⟩) | ⟨o, its, n, h, hc, _⟩
    · exact .base (.lst h)
    · exact .base (.frz h)
    · exact .kList h hc
  | tup ds =>
    obtain ⟨a, xs, rfl, h, _⟩ := r
    refine ⟨.type "tuple", ?_, fun T u h => by rw [h.t]; cases T <;> rfl⟩
    rcases h with h | ⟨o, h⟩
    · exact .base (.tup h)
    · exact .fTuple h
  | obj C ns ds =>
    have r' : Rep K H M (.obj C ns ds) v := r
    unfold Rep at r'
    obtain ⟨a, dx, xs, rfl, _, h, _⟩ := r'
    have hC : C ∈ cs := by
      unfold knownB at k
      simpa using k
    have I := hc C hC
    exact ⟨_, .base (.ins h I.cl I.ha I.hn I.ht I.hm), fun T u h => by rw [h.c C hC]; cases T <;> rfl⟩
  | raw w => cases k
  | fn x => cases k
  | dct =>
    have r' : Rep K H M .dct v := r
    unfold Rep at r'
    obtain ⟨a, _, rfl, _, h⟩ := r'
    exact ⟨_, .base (.dK h), fun T u h => h.d⟩
theorem isin_sat {K : PySem.W.Frag} {a : IR} {ts : List Ty} (hc : ∀ C, C ∈ G.cls → IsC K C) {σ : L2.St} {H : Hp} {Q : VK} (q : tI G W K (.isin a ts) σ H Q) :
    tI G W K a σ H fun x H1 => ∃ t, TyX K H1 x t ∧ ∃ d, (∀ T u, IsK K G.cls T u → PySem.W.kitOne K t u = some (tyD T d)) ∧ (∀ H2, Stp NoA H1 H2 → Q (.bl (ts.any fun T => tyD T d)) H2) := by
  obtain ⟨H0, M0, A, env, E, q⟩ := q
  rw [ev] at q
  refine ⟨H0, M0, A, env, E, (Sat.bind q).mono fun o e1 H1 _ s1 u1 E1 h1 x hx => ?_⟩
  cases e : rdO e1 o with
  | none => rw [e] at h1; exact h1.elim
  | some d =>
    rw [e] at h1
    dsimp only at h1
    by_cases hk : knownB G.cls d = true
    · rw [if_pos hk] at h1
      obtain ⟨t, h, h'⟩ := is_read hc (hx.rdT E1 e) hk
      exact ⟨t, h, d, h', fun H2 s => h1 H2 s.no Sub.refl (E1.keep s) _ (show Rep K H2 (MM M0 e1 σ) (.bl _) (.bl _) from rep_bl _)⟩
    · rw [if_neg hk] at h1; exact h1.elim
theorem e_isin1 {a c : Expr} {a' : IR} {T : Ty} {cv : V} {u : Value} {p pos : Pos} (hc : ∀ C, C ∈ G.cls → IsC X.K C) (hK : IsK X.K G.cls T u) (hv : ClsV cv u) (ha : PE X a (tI G W X.K a')) (hcl : PE X c (tC cv)) (hg : Gl X "isinstance") (hm : X.mg "isinstance" = none) (s1 : starB a = false) (s2 : starB c = false) :
    PE X (.Call (.Name "isinstance" p) [a, c] [] pos) (tI G W X.K (.isin a' [T])) :=
  PE.by_ (pe_callB call_isi hg hm (by decide +kernel) (pa_cons ha (pa_cons hcl pa_nil (star_cons s2)) (star_cons s1)) (by decide) (by decide) (star_cons s1) (star_none (by rw [List.any_cons, s2]; rfl))) fun σ H Q q => by
    obtain ⟨H0, M0, A, env, E, q⟩ := isin_sat hc q
    refine ⟨H0, M0, A, env, E, q.mono fun o e1 H1 _ s1 u1 E1 h1 x hx => ?_⟩
    obtain ⟨t, h2, d, h3, h4⟩ := h1 x hx
    refine ⟨x, cv, t, u, tyD T d, rfl, hv, h2, h3 T u hK, ?_⟩
    have := h4 H1 Stp.refl
    simpa using this
/-- append -/
theorem own_at {env : Env} {i : Nat} (h : ownB env i = true) : ∃ ds, env[i]? = some (some (.own ds)) := by
  unfold ownB at h
  cases e : env[i]? with
  | none => rw [e] at h; cases h
  | some o =>
    rw [e] at h
    cases o with
    | none => cases h
    | some c =>
      cases c with
      | own ds => exact ⟨ds, rfl⟩
      | _ => cases h
theorem e_app {x : Str} {np apos pos : Pos} {e : Expr} {i : Nat} {e' : IR} (hN : X.N[i]? = some x) (hv : Vis X.env.scope x) (hd : (x == ("__debug__" : Str)) = false) (hcd : (x == ("__classdict__" : Str)) = false) (ha : PE X e (tI G W X.K e')) (h1 : starB e = false)
    (hfew : ((backTo pos (starEach [e] X.env)).all (fun x => !x.1) && (backToKw pos (keywordEach [] X.env)).all (fun x => x.1.isSome)
      && decide (([e] : List Expr).length + ([] : List Keyword).length + (if ([] : List Keyword).isEmpty then 0 else 1) < 30)) = true)
    (hline : (apos.endLine == pos.line) = true) :
    PE X (.Call (.Attribute (.Name x np) "append" apos) [e] [] pos) (tI G W X.K (.app i e')) :=
  PE.by_ (pe_bm PySem.F.plainAttrs_list PySem.F.slot_list_append PySem.F.type_list_append mt_append (pe_var hN hv hd hcd) (pa_cons ha pa_nil (star_cons h1)) rfl hfew hline (star_cons h1) (star_none rfl)) fun σ H Q q => by
    obtain ⟨H0, M0, A, env, E, q⟩ := q
    rw [ev] at q
    by_cases ho : ownB env i = true
    · rw [if_pos ho] at q
      obtain ⟨ds, hi⟩ := own_at ho
      obtain ⟨a, xs, e1, e2, _⟩ := E.own i ds hi
      refine ⟨_, e1, .inl ⟨rfl, _, SqL.of e2⟩, H0, M0, A, env, E, ?_⟩
      unfold R.take at q
      rw [R.bind_assoc] at q
      refine (Sat.bind q).mono fun o e1' H1 _ s1 u1 E1 h1 v hx => ?_
      cases e : takeO e1' o with
      | none => rw [e] at h1; exact h1.elim
      | some p =>
        obtain ⟨d, e2'⟩ := p
        rw [e] at h1
        obtain ⟨E2, rd, u2⟩ := E1.take hx e
        have h1 : Sat X.K H0 M0 A W (match e2'[i]? with
            | some (some (.own ds)) => if ds.length < BIG then R.ok (.val .non) (e2'.set i (some (.own (ds ++ [d])))) else .bad
            | _ => .bad) e1' σ H1 fun o e1 H1 => ∀ v, OpdR X.K M0 e1 σ H1 o v → Q v H1 := h1
        cases h2 : e2'[i]? with
        | none => rw [h2] at h1; exact h1.elim
        | some c =>
          rw [h2] at h1
          cases c with
          | none => exact h1.elim
          | some c =>
            cases c with
            | own ds' =>
              dsimp only at h1
              by_cases hl : ds'.length < BIG
              · rw [if_pos hl] at h1
                obtain ⟨a', xs', f1, f2, f3, f4⟩ := E2.own i ds' h2
                rw [e1] at f1; cases f1
                have hs : sizeLine = 16777216 := sizeLine_eq
                refine ⟨a, xs', v, rfl, rfl, f2, by rw [← f3.length]; unfold BIG at hl; omega, ?_⟩
                have st : Stp (fun x => x = a) H1 (upd H1 a (.lst (xs' ++ [v]))) := Stp.set rfl (pl_at f2)
                have stM : Stp (MM M0 e2' σ) H1 (upd H1 a (.lst (xs' ++ [v]))) := st.weak fun x z => z ▸ .inr ⟨i, ds', h2, e1⟩
                obtain ⟨E3, u3, _⟩ := E2.setOwn h2 e1 st upd_same (out := ds' ++ [d]) ((RepL.stp stM (fun _ z => z) ds' xs' f3).append (RepL.cons (Rep.stp stM (fun _ z => z) d v rd) RepL.nil))
                refine h1 _ (st.weak fun x z => z ▸ .inr (u2.own a ⟨i, ds', h2, e1⟩)) (u2.trans u3) E3 .non ?_
                unfold OpdR
                dsimp only
                unfold Rep
                rfl
              · rw [if_neg hl] at h1; exact h1.elim
            | _ => exact h1.elim
    · rw [if_neg ho] at q; exact q.elim
end
end Mp
set_option maxHeartbeats 4000000
namespace Mp
open PySem L2
variable [TabsW] [GdW]
inductive SR where
  | nx (env : Env) | rt (d : D) (env : Env) | rl (ds : List D) (env : Env) | bk (env : Env) | ct (env : Env) | exc (C : Str) (f : Str) (d : D) (env : Env) | bad
def R.toS {α : Type} : R α → (α → Env → SR) → SR
  | .ok a e, k => k a e
  | .exc C f d e, _ => .exc C f d e
  | .bad, _ => .bad
def SR.seq : SR → (Env → SR) → SR
  | .nx e, k => k e
  | r, _ => r
/-- a list just made -/
inductive LM where
  | lst (es : List IR) | copy (e : IR) | call (j : Nat) (es : List IR) | add (a b : IR)
inductive ST where
  | expr (e : IR) | asg (tg : Tgt) (e : IR) | new (i : Nat) (m : LM) | six (i : Nat) (ie e : IR)
  | if_ (t : IR) (a b : List ST) | for_ (tg : Tgt) (it : IT) (b : List ST) | whl (t : IR) (b : List ST)
  | ret (e : IR) | retn | retl (m : LM) | pass | brk | cont | par (is : List Nat) (es : List IR) | parn (i : Nat) (e : IR) (j : Nat) (m : LM) | parn3 (i : Nat) (a : IR) (j : Nat) (b : IR) (k : Nat) (m : LM) | nev | raise (C f : Str) (e : IR) | parl (i : Nat) (m : LM) (j : Nat) | setL (i : Nat) (ie e : IR) | parl2 (i j : Nat) (a : IR) | parl3 (i j : Nat) (a : IR) (k : Nat) (b : IR) | aug (i : Nat) (neg : Bool) (e : IR)
/-- the turns of a for -/
def forL (tg : Tgt) (body : Env → SR) : List D → Env → SR
  | [], env => .nx env
  | d :: ds, env => match bindT tg d env with
    | none => .bad
    | some e1 => match body e1 with
      | .nx e2 => forL tg body ds e2
      | .ct e2 => forL tg body ds e2
      | .bk e2 => .nx e2
      | .rt d e2 => .rt d e2
      | .rl d e2 => .rl d e2
      | .exc C f d e2 => .exc C f d e2
      | .bad => .bad
/-- the turns of a while, at most so many -/
def whlL (t : Env → R Bool) (body : Env → SR) : Nat → Env → SR
  | 0, _ => .bad
  | n + 1, env => (t env).toS fun b e1 => if b then (match body e1 with
      | .nx e2 => whlL t body n e2
      | .ct e2 => whlL t body n e2
      | .bk e2 => .nx e2
      | .rt d e2 => .rt d e2
      | .rl d e2 => .rl d e2
      | .exc C f d e2 => .exc C f d e2
      | .bad => .bad) else .nx e1
def evL (G : Ctx) : LM → Env → R (List D)
  | .lst es, env => evs G es env
  | .copy e, env => (ev G e env).rd.bind fun d e1 => match d with
    | .lst ds => .ok ds e1
    | .tup ds => .ok ds e1
    | _ => .bad
  | .add a b, env => (ev G a env).bind fun x e1 => (ev G b e1).bind fun y e2 => match rdO e2 x, rdO e2 y with
    | some (.lst p), some (.lst q) => if p.length + q.length ≤ BIG then .ok (p ++ q) e2 else .bad
    | _, _ => .bad
  | .call j es, env => match G.frs[j]? with
    | none => .bad
    | some f => if es.length = f.n then (evs G es env).bind fun vs e1 => (match f.sem vs with
      | .ok (.lst ds) _ => .ok ds e1
      | .exc C g d _ => .exc C g d e1
      | _ => .bad) else .bad
/-- a list that may be changed here -/
def placeB (env : Env) (i : Nat) : Bool := match env[i]? with
  | some (some (.own _)) => true
  | some (some (.io _)) => true
  | _ => false
mutual
def evS (G : Ctx) : ST → Env → SR
  | .expr e, env => (ev G e env).toS fun _ e1 => .nx e1
  | .asg tg e, env => (ev G e env).take.toS fun d e1 => match bindT tg d e1 with
    | some e2 => .nx e2
    | none => .bad
  | .new i m, env => (evL G m env).toS fun ds e1 => if ds.length ≤ BIG ∧ freeB e1 i = true then .nx (e1.set i (some (.own ds))) else .bad
  | .six i ie e, env => (ev G e env).take.toS fun d e1 => if placeB e1 i then (ev G ie e1).rd.toS fun k e2 => (match k, e2[i]? with
      | .int k, some (some (.own ds)) => if 0 ≤ k ∧ k < ds.length then .nx (e2.set i (some (.own (ds.set k.toNat d)))) else .bad
      | .int k, some (some (.io ds)) => if 0 ≤ k ∧ k < ds.length then .nx (e2.set i (some (.io (ds.set k.toNat d)))) else .bad
      | _, _ => .bad) else .bad
  | .retl m, env => (evL G m env).toS fun ds e1 => if ds.length ≤ BIG then .rl ds e1 else .bad
  | .par is es, env => (evs G es env).toS fun ds e1 => match bindT (.tup is) (.tup ds) e1 with
    | some e2 => .nx e2
    | none => .bad
  | .parn i e j m, env => (ev G e env).take.toS fun d e1 => (evL G m e1).toS fun ds e2 => if ds.length ≤ BIG ∧ freeB e2 i = true ∧ freeB e2 j = true ∧ i ≠ j then .nx ((e2.set i (some (.dat d))).set j (some (.own ds))) else .bad
  | .parn3 i a j b k m, env => (ev G a env).take.toS fun d e1 => (ev G b e1).take.toS fun d2 e2 => (evL G m e2).toS fun ds e3 => if ds.length ≤ BIG ∧ freeB e3 i = true ∧ freeB e3 j = true ∧ freeB e3 k = true ∧ i ≠ j ∧ i ≠ k ∧ j ≠ k then .nx (((e3.set i (some (.dat d))).set j (some (.dat d2))).set k (some (.own ds))) else .bad
  | .nev, _ => .bad
  | .aug i neg e, env => match cellAt env i with
    | some (.dat (.int j)) => (ev G e env).take.toS fun d e1 => (match d with
      | .int k => (match bindT (.name i) (.int (if neg then j - k else j + k)) e1 with
        | some e2 => .nx e2
        | none => .bad)
      | _ => .bad)
    | _ => .bad
  | .parl i m j, env => (evL G m env).toS fun ds e1 => if ds.length ≤ BIG ∧ freeB e1 i = true ∧ freeB e1 j = true ∧ i ≠ j then .nx ((e1.set i (some (.own ds))).set j (some (.own []))) else .bad
  | .parl2 i j a, env => (ev G a env).take.toS fun d e1 => if freeB e1 i = true ∧ freeB e1 j = true ∧ i ≠ j then .nx ((e1.set j (some (.dat d))).set i (some (.own []))) else .bad
  | .parl3 i j a k b, env => (ev G a env).take.toS fun d e1 => (ev G b e1).take.toS fun d2 e2 => if freeB e2 i = true ∧ freeB e2 j = true ∧ freeB e2 k = true ∧ i ≠ j ∧ i ≠ k ∧ j ≠ k then .nx (((e2.set j (some (.dat d))).set k (some (.dat d2))).set i (some (.own []))) else .bad
  | .setL i ie e, env => (ev G e env).take.toS fun d e1 => if placeB e1 i then (ev G ie e1).rd.toS fun k e2 => (match k, e2[i]? with
      | .int k, some (some (.own ds)) => (match ixN ds.length k with
        | some j => .nx (e2.set i (some (.own (ds.set j d))))
        | none => .bad)
      | _, _ => .bad) else .bad
  | .raise C f e, env => (evs G [e] env).toS fun ds e1 => match ds with
    | [d] => .exc C f d e1
    | _ => .bad
  | .if_ t a b, env => (truR (ev G t env)).toS fun c e1 => if c then evSs G a e1 else evSs G b e1
  | .for_ tg it b, env => (evi G it env).toS fun ds e1 => forL tg (fun e => evSs G b e) ds e1
  | .whl t b, env => whlL (fun e => truR (ev G t e)) (fun e => evSs G b e) BIG env
  | .ret e, env => (ev G e env).take.toS fun d e1 => .rt d e1
  | .retn, env => .rt .non env
  | .pass, env => .nx env
  | .brk, env => .bk env
  | .cont, env => .ct env
def evSs (G : Ctx) : List ST → Env → SR
  | [], env => .nx env
  | s :: ss, env => (evS G s env).seq fun e => evSs G ss e
end
/-- what is owned later was owned or is new -/
structure SubS (σ : L2.St) (env : Env) (H : Hp) (σ' : L2.St) (env' : Env) : Prop where
  own : ∀ a, MutAt env' σ' a → MutAt env σ a ∨ ¬ Lv H a
  len : σ'.length = σ.length
theorem SubS.refl {σ : L2.St} {env : Env} {H : Hp} : SubS σ env H σ env := ⟨fun _ z => .inl z, rfl⟩
theorem Sub.toS {σ : L2.St} {env e1 : Env} {H : Hp} (u : Sub σ env e1) : SubS σ env H σ e1 := ⟨fun a z => .inl (u.own a z), rfl⟩
section
variable {K : PySem.W.Frag} {H0 H H1 H2 : Hp} {M0 A : AS} {env e1 e2 : Env} {σ σ1 σ2 : L2.St} {W : WX}
theorem Stp.sTrans (s : Stp (WW A env σ) H H1) (u : SubS σ env H σ1 e1) (s2 : Stp (WW A e1 σ1) H1 H2) : Stp (WW A env σ) H H2 := by
  refine ⟨fun a o e n t => s2.st a o (s.st a o e n t) (fun z => ?_) t, fun a h => s2.mo a (s.mo a h), fun P q m h => s2.tb P q m (s.tb P q m h)⟩
  rcases z with z | z
  · exact n (.inl z)
  · rcases u.own a z with q | q
    · exact n (.inr q)
    · exact q ⟨o, e, t⟩
theorem SubS.trans (s : Stp (WW A env σ) H H1) (u : SubS σ env H σ1 e1) (u2 : SubS σ1 e1 H1 σ2 e2) : SubS σ env H σ2 e2 := by
  refine ⟨fun a z => ?_, u2.len.trans u.len⟩
  rcases u2.own a z with q | q
  · exact u.own a q
  · exact .inr fun w => q (s.mo a w)
/-- what follows a statement -/
def SatS (K : PySem.W.Frag) (H0 : Hp) (M0 A : AS) (W : WX) (r : SR) (env : Env) (σ : L2.St) (H : Hp) (D : Ends) : Prop := match r with
  | .nx e' => ∀ σ' H', Stp (WW A env σ) H H' → SubS σ env H σ' e' → EnvR K H0 M0 A e' σ' H' → D.nx σ' H'
  | .bk e' => ∀ σ' H', Stp (WW A env σ) H H' → SubS σ env H σ' e' → EnvR K H0 M0 A e' σ' H' → D.bk σ' H'
  | .ct e' => ∀ σ' H', Stp (WW A env σ) H H' → SubS σ env H σ' e' → EnvR K H0 M0 A e' σ' H' → D.ct σ' H'
  | .rt d e' => ∀ σ' v H', Stp (WW A env σ) H H' → SubS σ env H σ' e' → EnvR K H0 M0 A e' σ' H' → Rep K H' (MM M0 e' σ') d v → D.rt v H'
  | .rl ds e' => ∀ σ' p vs H', Stp (WW A env σ) H H' → SubS σ env H σ' e' → EnvR K H0 M0 A e' σ' H' → ¬ Lv H0 p → ¬ M0 p → H' p = some (.lst vs) → RepL K H' (fun a => M0 a ∨ a = p) ds vs → D.rt (.ref p) H'
  | .exc C f d e' => ∀ σ' dd v H', Stp (WW A env σ) H H' → SubS σ env H σ' e' → EnvR K H0 M0 A e' σ' H' → H' dd = some (.xd [(f, v)]) → Rep K H' (MM M0 e' σ') d v → W (.ref (clsAt K C)) (some dd) σ' H'
  | .bad => False
theorem SatS.go {r : SR} {D : Ends} (h : SatS K H0 M0 A W r env σ H D) (s : Stp (WW A env σ) H H1) (u : SubS σ env H σ1 e1) : SatS K H0 M0 A W r e1 σ1 H1 D := by
  cases r with
  | bad => exact h
  | nx e' => exact fun σ' H' s' u' E' => h σ' H' (s.sTrans u s') (u.trans s u') E'
  | bk e' => exact fun σ' H' s' u' E' => h σ' H' (s.sTrans u s') (u.trans s u') E'
  | ct e' => exact fun σ' H' s' u' E' => h σ' H' (s.sTrans u s') (u.trans s u') E'
  | rt d e' => exact fun σ' v H' s' u' E' => h σ' v H' (s.sTrans u s') (u.trans s u') E'
  | rl d e' => exact fun σ' p vs H' s' u' E' => h σ' p vs H' (s.sTrans u s') (u.trans s u') E'
  | exc C f d e' => exact fun σ' dd v H' s' u' E' => h σ' dd v H' (s.sTrans u s') (u.trans s u') E'
theorem SatS.toS {α : Type} {r : R α} {f : α → Env → SR} {D : Ends} (h : SatS K H0 M0 A W (r.toS f) env σ H D) : Sat K H0 M0 A W r env σ H fun a e1 H1 => SatS K H0 M0 A W (f a e1) e1 σ H1 D := by
  cases r with
  | bad => exact h
  | exc C f d e' => exact fun dd v H' s u E' => h σ dd v H' s u.toS E'
  | ok a e' => exact fun H' s u E' => SatS.go (show SatS K H0 M0 A W (f a e') env σ H D from h) s u.toS
end
section
variable {X : Cx} {G : Ctx} {W : WX}
def tS (G : Ctx) (W : WX) (K : PySem.W.Frag) (s : ST) : TS := fun D σ H => ∃ H0 M0 A env, EnvR K H0 M0 A env σ H ∧ SatS K H0 M0 A W (evS G s env) env σ H D
def tSs (G : Ctx) (W : WX) (K : PySem.W.Frag) (s : List ST) : TS := fun D σ H => ∃ H0 M0 A env, EnvR K H0 M0 A env σ H ∧ SatS K H0 M0 A W (evSs G s env) env σ H D
theorem PS.by_ {s : Stmt} {t t' : TS} (h : PS X s t) (i : ∀ D σ H, t' D σ H → t D σ H) : PS X s t' := ⟨fun pins s σ H D I q => h.run pins s σ H D I (i D σ H q)⟩
theorem PSs.by_ {s : List Stmt} {t t' : TS} (h : PSs X s t) (i : ∀ D σ H, t' D σ H → t D σ H) : PSs X s t' := ⟨fun pins s σ H D I q => h.run pins s σ H D I (i D σ H q)⟩
theorem take_readS {K : PySem.W.Frag} {H0 H : Hp} {M0 A : AS} {env : Env} {σ : L2.St} {i : IR} {f : D → Env → SR} {D : Ends} (E : EnvR K H0 M0 A env σ H) (q : SatS K H0 M0 A W ((ev G i env).take.toS f) env σ H D)
    {Q : VK} (k : ∀ d v e1 H1, EnvR K H0 M0 A e1 σ H1 → Rep K H1 (MM M0 e1 σ) d v → Stp (WW A env σ) H H1 → Sub σ env e1 → SatS K H0 M0 A W (f d e1) e1 σ H1 D → Q v H1) : tI G W K i σ H Q := by
  have q := SatS.toS q
  unfold R.take at q
  refine ⟨H0, M0, A, env, E, (Sat.bind q).mono fun o e1 H1 _ s1 u1 E1 h1 x hx => ?_⟩
  cases e : takeO e1 o with
  | none => rw [e] at h1; exact h1.elim
  | some p =>
    obtain ⟨d, e2⟩ := p
    rw [e] at h1
    obtain ⟨E2, rd, u2⟩ := E1.take hx e
    exact k d x e2 H1 E2 rd s1 (u1.trans u2) (h1 H1 Stp.refl u2 E2)
theorem rd_readS {K : PySem.W.Frag} {H0 H : Hp} {M0 A : AS} {env : Env} {σ : L2.St} {i : IR} {f : D → Env → SR} {D : Ends} (E : EnvR K H0 M0 A env σ H) (q : SatS K H0 M0 A W ((ev G i env).rd.toS f) env σ H D)
    {Q : VK} (k : ∀ d v e1 H1, EnvR K H0 M0 A e1 σ H1 → RepT K H1 (MM M0 e1 σ) d v → Stp (WW A env σ) H H1 → Sub σ env e1 → SatS K H0 M0 A W (f d e1) e1 σ H1 D → Q v H1) : tI G W K i σ H Q := by
  have q := SatS.toS q
  unfold R.rd at q
  refine ⟨H0, M0, A, env, E, (Sat.bind q).mono fun o e1 H1 _ s1 u1 E1 h1 x hx => ?_⟩
  cases e : rdO e1 o with
  | none => rw [e] at h1; exact h1.elim
  | some d =>
    rw [e] at h1
    exact k d x e1 H1 E1 (hx.rdT E1 e) s1 u1 (h1 H1 Stp.refl Sub.refl E1)
theorem st_expr {e : Expr} {i : IR} {pos : Pos} (he : PE X e (tI G W X.K i)) (hs : swapsWith e none pos.line X.env = pure false) : PS X (.Expr e pos) (tS G W X.K (.expr i)) := PS.by_ (ps_expr he hs) fun D σ H q => by
  obtain ⟨H0, M0, A, env, E, q⟩ := q
  rw [evS] at q
  exact ⟨H0, M0, A, env, E, (SatS.toS q).mono fun o e1 H1 _ s1 u1 E1 h1 v hv => h1 σ H1 Stp.refl SubS.refl E1⟩
theorem st_asg {tgE e : Expr} {tg : Tgt} {i : IR} {pos : Pos} (h : PS X (.Assign [tgE] e pos) (tAsg (tI G W X.K i) (gT X.K tg))) : PS X (.Assign [tgE] e pos) (tS G W X.K (.asg tg i)) := PS.by_ h fun D σ H q => by
  obtain ⟨H0, M0, A, env, E, q⟩ := q
  rw [evS] at q
  refine take_readS E q fun d v e1 H1 E1 rd s1 u1 h1 => ?_
  cases hb : bindT tg d e1 with
  | none => rw [hb] at h1; exact h1.elim
  | some e2 =>
    rw [hb] at h1
    exact tgt_read E1 hb rd fun σ' E' u' l' o' => h1 σ' H1 Stp.refl ⟨fun a z => .inl (u' a z), l'⟩ E'
theorem st_ret {e : Expr} {i : IR} {pos : Pos} (he : PE X e (tI G W X.K i)) : PS X (.Return (some e) pos) (tS G W X.K (.ret i)) := PS.by_ (ps_ret he) fun D σ H q => by
  obtain ⟨H0, M0, A, env, E, q⟩ := q
  rw [evS] at q
  exact take_readS E q fun d v e1 H1 E1 rd s1 u1 h1 => h1 σ v H1 Stp.refl SubS.refl E1 rd
theorem st_cont {pos : Pos} : PS X (.Continue pos) (tS G W X.K .cont) := PS.by_ ps_continue fun D σ H q => by
  obtain ⟨H0, M0, A, env, E, q⟩ := q
  rw [evS] at q
  exact q σ H Stp.refl SubS.refl E
/-- raise X(e): the error's own dict d is new and holds the field f -/
def tRaiseE (C : Addr) (f : Str) (W : WX) (ta : TA) : TS := fun _ σ H => ta σ H fun vs H1 => ∃ v, vs = [v] ∧ ∀ d, H1 d = none → W (.ref C) (some d) σ (upd H1 d (.xd [(f, v)]))
theorem st_raise {s : Stmt} {C f : Str} {i : IR} (h : PS X s (tRaiseE (clsAt X.K C) f W (tIs G W X.K [i]))) : PS X s (tS G W X.K (.raise C f i)) := PS.by_ h fun D σ H q => by
  obtain ⟨H0, M0, A, env, E, q⟩ := q
  rw [evS] at q
  refine ⟨H0, M0, A, env, E, (SatS.toS q).mono fun ds e1 H1 _ s1 u1 E1 h1 vs hv => ?_⟩
  cases ds with
  | nil => exact h1.elim
  | cons d ds =>
    cases ds with
    | cons _ _ => exact h1.elim
    | nil =>
      unfold RepL at hv
      obtain ⟨v, ys, rfl, rv, hn⟩ := hv
      unfold RepL at hn
      subst hn
      exact ⟨v, rfl, fun p hp => h1 σ p v _ (Stp.new hp) SubS.refl (E1.new hp) upd_same (Rep.stp (Stp.new hp) (fun _ z => z) d v rv)⟩
theorem ss_nil : PSs X [] (tSs G W X.K []) := PSs.by_ pss_nil fun D σ H q => by
  obtain ⟨H0, M0, A, env, E, q⟩ := q
  rw [evSs] at q
  exact q σ H Stp.refl SubS.refl E
theorem seq_read {K : PySem.W.Frag} {H0 H : Hp} {M0 A : AS} {env : Env} {σ : L2.St} {r : SR} {ss : List ST} {D : Ends} (q : SatS K H0 M0 A W (r.seq fun e => evSs G ss e) env σ H D) : SatS K H0 M0 A W r env σ H { D with nx := tSs G W K ss D } := by
  cases r with
  | nx e' => exact fun σ' H' s u E' => ⟨H0, M0, A, e', E', SatS.go (show SatS K H0 M0 A W (evSs G ss e') env σ H D from q) s u⟩
  | _ => exact q
theorem ss_cons {s : Stmt} {ss : List Stmt} {t : ST} {ts : List ST} (h1 : PS X s (tS G W X.K t)) (h2 : PSs X ss (tSs G W X.K ts)) : PSs X (s :: ss) (tSs G W X.K (t :: ts)) := PSs.by_ (pss_cons h1 h2) fun D σ H q => by
  obtain ⟨H0, M0, A, env, E, q⟩ := q
  rw [evSs] at q
  exact ⟨H0, M0, A, env, E, seq_read q⟩
theorem st_if {c : Expr} {a b : List Stmt} {t : IR} {as bs : List ST} {pos : Pos} (hc : PT X c (tIt G W X.K t)) (ha : PSs X a (tSs G W X.K as)) (hb : PSs X b (tSs G W X.K bs)) : PS X (.If c a b pos) (tS G W X.K (.if_ t as bs)) := PS.by_ (ps_if hc ha hb) fun D σ H q => by
  obtain ⟨H0, M0, A, env, E, q⟩ := q
  rw [evS] at q
  refine ⟨H0, M0, A, env, E, (SatS.toS q).mono fun b e1 H1 _ s1 u1 E1 h1 => ?_⟩
  cases b with
  | true => exact ⟨H0, M0, A, e1, E1, h1⟩
  | false => exact ⟨H0, M0, A, e1, E1, h1⟩
end
end Mp
set_option maxHeartbeats 4000000
namespace Mp
open PySem L2
variable [TabsW] [GdW]
section
variable {X : Cx} {G : Ctx} {W : WX}
theorem for_reads {K : PySem.W.Frag} {H0 H1 : Hp} {M0 A : AS} {e1 : Env} {σ : L2.St} {tg : Tgt} {b : List ST} {ds : List D} {J : L2.It} {D : Ends} (E1 : EnvR K H0 M0 A e1 σ H1) (gJ : Goes K (MM M0 e1 σ) (WW A e1 σ) H1 J ds)
    (q : SatS K H0 M0 A W (forL tg (fun e => evSs G b e) ds e1) e1 σ H1 D) :
    ∃ Wd : Nat → Nat → L2.St → Hp → Prop, (∃ m, Wd 0 m σ H1) ∧ ∀ i m σ H, Wd i m σ H →
      (J.stop i H ∧ D.nx σ H) ∨ (J.go i H ∧ ∃ N : L2.St → Hp → Prop, (∀ σ' H', N σ' H' → ∃ m', m' < m ∧ Wd (i + 1) m' σ' H') ∧ ∀ x H', J.yld i H x H' → gT K tg x σ H' fun σ2 H2 => tSs G W K b { D with nx := N, ct := N, bk := D.nx } σ2 H2) := by
  obtain ⟨Gd, Y, wk, hGd, hY⟩ := gJ
  refine L2.for_it wk (fun i σi Hi => ∃ envi, EnvR K H0 M0 A envi σi Hi ∧ Stp (WW A e1 σ) H1 Hi ∧ SubS σ e1 H1 σi envi ∧ SatS K H0 M0 A W (forL tg (fun e => evSs G b e) (ds.drop i) envi) envi σi Hi D) ⟨e1, E1, Stp.refl, SubS.refl, q⟩
    (fun i σ H _ ⟨_, _, s, _⟩ => hGd H s) (fun i x σi H H' hi ⟨envi, Ei, si, ui, qi⟩ y => ?_) fun σi H ⟨envi, Ei, si, ui, qi⟩ => ?_
  · have hM : ∀ a, MM M0 envi σi a → (MM M0 e1 σ a ∨ ¬ Lv H1 a) ∧ Lv H a := fun a z => by
      rcases z with z | z
      · exact ⟨.inl (.inl z), Ei.m0 a z⟩
      · refine ⟨(ui.own a z).elim (fun q => .inl (.inr q)) .inr, ?_⟩
        obtain ⟨j, es, z1, z2⟩ := z
        obtain ⟨b, zs, b1, b2, _⟩ := Ei.own j es z1
        rw [z2] at b1; cases b1
        exact Lv.lst b2
    obtain ⟨st, d, hd, rd⟩ := hY i H x H' _ hi si hM y
    have hdrop : ds.drop i = d :: ds.drop (i + 1) := by
      rw [List.drop_eq_getElem_cons hi]
      congr 1
      have := List.getElem?_eq_getElem hi
      rw [hd] at this; exact (Option.some.inj this).symm
    rw [hdrop, forL] at qi
    cases hb : bindT tg d envi with
    | none => rw [hb] at qi; exact qi.elim
    | some env2 =>
      rw [hb] at qi
      dsimp only at qi
      refine tgt_read (Ei.keep st) hb rd fun σ' E' u' l' o' => ⟨H0, M0, A, env2, E', ?_⟩
      have w : ∀ a, WW A env2 σ' a → WW A envi σi a := fun a z => z.elim .inl fun q => .inr (u' a q)
      have nxt : ∀ {e2 : Env} {σ2 : L2.St} {H2 : Hp}, Stp (WW A env2 σ') H' H2 → SubS σ' env2 H' σ2 e2 → Stp (WW A envi σi) H H2 ∧ SubS σi envi H σ2 e2 := fun {e2 σ2 H2} s2 u2 => by
        refine ⟨st.no.trans (s2.weak w), fun a z => ?_, u2.len.trans l'⟩
        rcases u2.own a z with q | q
        · exact .inl (u' a q)
        · exact .inr fun w => q (st.mo a w)
      cases hr : evSs G b env2 with
      | bad => rw [hr] at qi; exact qi.elim
      | nx e2 =>
        rw [hr] at qi
        intro σ2 H2 s2 u2 E2
        obtain ⟨s3, u3⟩ := nxt s2 u2
        exact ⟨e2, E2, si.sTrans ui s3, ui.trans si u3, SatS.go qi s3 u3⟩
      | ct e2 =>
        rw [hr] at qi
        intro σ2 H2 s2 u2 E2
        obtain ⟨s3, u3⟩ := nxt s2 u2
        exact ⟨e2, E2, si.sTrans ui s3, ui.trans si u3, SatS.go qi s3 u3⟩
      | bk e2 =>
        rw [hr] at qi
        intro σ2 H2 s2 u2 E2
        obtain ⟨s3, u3⟩ := nxt s2 u2
        exact qi σ2 H2 s3 u3 E2
      | rt d e2 =>
        rw [hr] at qi
        intro σ2 v H2 s2 u2 E2
        obtain ⟨s3, u3⟩ := nxt s2 u2
        exact qi σ2 v H2 s3 u3 E2
      | rl d e2 =>
        rw [hr] at qi
        intro σ2 p vs H2 s2 u2 E2
        obtain ⟨s3, u3⟩ := nxt s2 u2
        exact qi σ2 p vs H2 s3 u3 E2
      | exc C f d e2 =>
        rw [hr] at qi
        intro σ2 dd v H2 s2 u2 E2
        obtain ⟨s3, u3⟩ := nxt s2 u2
        exact qi σ2 dd v H2 s3 u3 E2
  · rw [List.drop_length, forL] at qi
    exact qi σi H Stp.refl SubS.refl Ei
theorem st_for {tgE iter : Expr} {body : List Stmt} {tg : Tgt} {it : IT} {b : List ST} {pos : Pos} (h : PS X (.For tgE iter body [] pos) (tFor (tIi G W X.K it) (gT X.K tg) (tSs G W X.K b))) : PS X (.For tgE iter body [] pos) (tS G W X.K (.for_ tg it b)) := PS.by_ h fun D σ H q => by
  obtain ⟨H0, M0, A, env, E, q⟩ := q
  rw [evS] at q
  exact ⟨H0, M0, A, env, E, (SatS.toS q).mono fun ds e1 H1 _ s1 u1 E1 h1 J gJ => for_reads E1 (gJ.weak (WW.sub E1.aM)) h1⟩
/-- a new list of one's own in a slot -/
theorem EnvR.setNew {K : PySem.W.Frag} {H0 H : Hp} {M0 A : AS} {env : Env} {σ : L2.St} (E : EnvR K H0 M0 A env σ H) {i : Nat} {ds : List D} {vs : List V} {p : Addr} {H' : Hp} (hf : freeB env i = true) (hp : ¬ Lv H p) (s : Stp NoA H H') (h' : H' p = some (.lst vs)) (r : RepL K H' (fun a => MM M0 env σ a ∨ a = p) ds vs) :
    EnvR K H0 M0 A (env.set i (some (.own ds))) (σ.set i (some (.ref p))) H' ∧ SubS σ env H (σ.set i (some (.ref p))) (env.set i (some (.own ds))) := by
  have hi := free_lt hf
  have hi' : i < σ.length := by rw [← E.len]; exact hi
  obtain ⟨n1, n2⟩ := E.freshL hp
  have other : ∀ {j c}, (env.set i (some (Cell.own ds)))[j]? = some (some c) → (i = j ∧ c = .own ds) ∨ (i ≠ j ∧ env[j]? = some (some c) ∧ (σ.set i (some (V.ref p)))[j]? = σ[j]?) := fun {j c} e1 => by
    by_cases hj : i = j
    · subst hj; rw [List.getElem?_set_self hi] at e1; cases e1; exact .inl ⟨rfl, rfl⟩
    · rw [List.getElem?_set_ne hj] at e1; exact .inr ⟨hj, e1, List.getElem?_set_ne hj⟩
  have mutI : ∀ b, MutAt (env.set i (some (Cell.own ds))) (σ.set i (some (V.ref p))) b → MutAt env σ b ∨ b = p := fun b ⟨j, es, e1, e2⟩ => by
    rcases other e1 with ⟨rfl, _⟩ | ⟨hj, e1, e3⟩
    · rw [List.getElem?_set_self hi'] at e2; cases e2; exact .inr rfl
    · rw [e3] at e2; exact .inl ⟨j, es, e1, e2⟩
  have subM : ∀ b, MM M0 (env.set i (some (Cell.own ds))) (σ.set i (some (V.ref p))) b → MM M0 env σ b ∨ b = p := fun b z => z.elim (fun q => .inl (.inl q)) fun q => (mutI b q).elim (fun q => .inl (.inr q)) .inr
  have gr : ∀ b, (MM M0 env σ b ∨ b = p) → MM M0 env σ b ∨ ¬ Lv H b := fun b z => z.elim .inl fun q => .inr (by rw [q]; exact hp)
  have rep : ∀ {d v}, Rep K H (MM M0 env σ) d v → Rep K H' (MM M0 (env.set i (some (Cell.own ds))) (σ.set i (some (V.ref p)))) d v := fun {d v} r => Rep.stp s.no subM d v (Rep.grow gr d v r)
  have repL : ∀ {es xs}, RepL K H (MM M0 env σ) es xs → RepL K H' (MM M0 (env.set i (some (Cell.own ds))) (σ.set i (some (V.ref p)))) es xs := fun {es xs} r => RepL.stp s.no subM es xs (RepL.grow gr es xs r)
  refine ⟨⟨by rw [List.length_set, List.length_set]; exact E.len, fun b o e n t => ?_, fun b h => s.mo b (E.alive b h), fun P q h => s.tb P q h (E.tb P q h), fun b hb => s.mo b (E.m0 b hb), E.aM, E.a1, fun j d' e1 => ?_, fun j es e1 => ?_, fun j es e1 => ?_, fun j k b es fs e1 e2 e3 e4 => ?_, fun j k es fs e1 e2 => ?_, fun j C ns es e1 => ?_⟩, fun b z => ?_, List.length_set⟩
  · exact s.st b o (E.old b o e n t) id t
  · rcases other e1 with ⟨rfl, e⟩ | ⟨hj, e1, e3⟩
    · cases e
    · obtain ⟨v, a1, a2⟩ := E.dat j d' e1
      exact ⟨v, e3.trans a1, rep a2⟩
  · rcases other e1 with ⟨rfl, e⟩ | ⟨hj, e1, e3⟩
    · cases e
      exact ⟨p, vs, List.getElem?_set_self hi', h', RepL.stp Stp.refl subM ds vs r, fun z => n1 (.inl z), n2⟩
    · obtain ⟨b, zs, a1, a2, a3, a4⟩ := E.own j es e1
      exact ⟨b, zs, e3.trans a1, s.st b _ a2 id nt_lst, repL a3, a4⟩
  · rcases other e1 with ⟨rfl, e⟩ | ⟨hj, e1, e3⟩
    · cases e
    · obtain ⟨b, zs, a1, a2, a3, a4⟩ := E.io j es e1
      exact ⟨b, zs, e3.trans a1, a2, s.st b _ a3 id nt_lst, repL a4⟩
  · have pn : ∀ {j es}, env[j]? = some (some (Cell.own es)) → σ[j]? = some (some (V.ref p)) → False := fun {j es} h1 h2 => by
      obtain ⟨b, zs, a1, a2, _⟩ := E.own j es h1
      rw [h2] at a1; cases a1
      exact hp (Lv.lst a2)
    rcases other e1 with ⟨rfl, e⟩ | ⟨hj, e1, e5⟩
    · rw [List.getElem?_set_self hi'] at e3; cases e3
      rcases other e2 with ⟨rfl, _⟩ | ⟨_, e2, e6⟩
      · rfl
      · rw [e6] at e4; exact (pn e2 e4).elim
    · rw [e5] at e3
      rcases other e2 with ⟨rfl, _⟩ | ⟨_, e2, e6⟩
      · rw [List.getElem?_set_self hi'] at e4; cases e4
        exact (pn e1 e3).elim
      · rw [e6] at e4
        exact E.inj j k b es fs e1 e2 e3 e4
  · rcases other e1 with ⟨rfl, e⟩ | ⟨_, e1, _⟩
    · cases e
    · rcases other e2 with ⟨rfl, e⟩ | ⟨_, e2, _⟩
      · cases e
      · exact E.io1 j k es fs e1 e2
  · rcases other e1 with ⟨rfl, e⟩ | ⟨_, e1, _⟩
    · cases e
    · exact E.slf j C ns es e1
  · rcases mutI b z with q | q
    · exact .inl q
    · exact .inr (by rw [q]; exact hp)
def tIl (G : Ctx) (W : WX) (K : PySem.W.Frag) (m : LM) : TE := fun σ H Q => ∃ H0 M0 A env, EnvR K H0 M0 A env σ H ∧ Sat K H0 M0 A W (evL G m env) env σ H fun ds e1 H1 => ds.length ≤ BIG ∧ ∀ vs p H', Stp NoA H1 H' → ¬ Lv H1 p → H' p = some (.lst vs) → RepL K H' (fun a => MM M0 e1 σ a ∨ a = p) ds vs → Q (.ref p) H'
theorem new_rep {K : PySem.W.Frag} {H : Hp} {M : AS} {p : Addr} {ds : List D} {vs : List V} (hp : H p = none) (r : RepL K H M ds vs) : RepL K (upd H p (.lst vs)) (fun a => M a ∨ a = p) ds vs :=
  RepL.stp (Stp.new hp) (fun _ z => z) ds vs (RepL.grow (fun a z => z.elim .inl fun q => .inr (by rw [q]; exact nn_of hp)) ds vs r)
theorem l_lst {es : List Expr} {is : List IR} {pos : Pos} (h : PA X es (tIs G W X.K is)) : PE X (.List es pos) (tIl G W X.K (.lst is)) := PE.by_ (pe_lst h) fun σ H Q q => by
  obtain ⟨H0, M0, A, env, E, q⟩ := q
  rw [evL] at q
  refine ⟨H0, M0, A, env, E, q.mono fun ds e1 H1 _ s1 u1 E1 h1 xs hx => ?_⟩
  have hs : sizeLine = 16777216 := sizeLine_eq
  exact ⟨by rw [← hx.length]; have := h1.1; unfold BIG at this; omega, fun p hp => h1.2 xs p _ (Stp.new hp) (nn_of hp) upd_same (new_rep hp hx)⟩
theorem l_copy {es : Expr} {i : IR} {p pos : Pos} (hc : CallR X (.type "list") (fun xs H Q => ∃ p ys, xs = [.ref p] ∧ (SqL X.K H p ys ∨ SqT X.K H p ys) ∧ ∀ l, H l = none → Q (.ref l) (upd H l (.lst ys)))) (hg : Gl X "list") (hm : X.mg "list" = none) (ha : PE X es (tI G W X.K i)) (h1 : starB es = false) :
    PE X (.Call (.Name "list" p) [es] [] pos) (tIl G W X.K (.copy i)) :=
  PE.by_ (pe_callTy hc hg hm (by decide +kernel) (pa_cons ha pa_nil (star_cons h1)) (by decide) (by decide) (star_cons h1) (star_none rfl)) fun σ H Q q => by
    obtain ⟨H0, M0, A, env, E, q⟩ := q
    rw [evL] at q
    refine rd_read E q fun d v e1 H1 E1 rd s1 u1 h1 => ?_
    cases d with
    | lst ds =>
      obtain ⟨a, xs, rfl, h, r⟩ := rd
      have h2 := h1 H1 Stp.refl Sub.refl E1
      exact ⟨a, xs, rfl, .inl h, fun l hl => h2.2 xs l _ (Stp.new hl) (nn_of hl) upd_same (new_rep hl r)⟩
    | tup ds =>
      obtain ⟨a, xs, rfl, h, r, _⟩ := rd
      have h2 := h1 H1 Stp.refl Sub.refl E1
      exact ⟨a, xs, rfl, .inr (Rd.t h), fun l hl => h2.2 xs l _ (Stp.new hl) (nn_of hl) upd_same (new_rep hl r)⟩
    | _ => exact h1.elim
theorem st_new {tgE e : Expr} {i : Nat} {m : LM} {pos : Pos} (h : PS X (.Assign [tgE] e pos) (tAsg (tIl G W X.K m) (gName i))) : PS X (.Assign [tgE] e pos) (tS G W X.K (.new i m)) := PS.by_ h fun D σ H q => by
  obtain ⟨H0, M0, A, env, E, q⟩ := q
  rw [evS] at q
  refine ⟨H0, M0, A, env, E, (SatS.toS q).mono fun ds e1 H1 _ s1 u1 E1 h1 => ?_⟩
  by_cases hc : ds.length ≤ BIG ∧ freeB e1 i = true
  · rw [if_pos hc] at h1
    refine ⟨hc.1, fun vs p H' s hp h' r => ?_⟩
    obtain ⟨E2, u2⟩ := E1.setNew hc.2 hp s h' r
    exact h1 _ _ s.no u2 E2
  · rw [if_neg hc] at h1; exact h1.elim
end
end Mp
set_option maxHeartbeats 4000000
namespace Mp
open PySem L2 PyProof.Rows
variable [TabsW] [GdW]
section
variable {X : Cx} {G : Ctx} {W : WX}
theorem ix_in' {n : Nat} {k : Int} (h0 : 0 ≤ k) (h1 : k < n) : ixN n k = some k.toNat := by
  unfold ixN
  rw [if_pos h0, if_pos h1]
theorem place_at {K : PySem.W.Frag} {H0 H : Hp} {M0 A : AS} {env : Env} {σ : L2.St} {i : Nat} (E : EnvR K H0 M0 A env σ H) (h : placeB env i = true) : ∃ a, σ[i]? = some (some (V.ref a)) := by
  unfold placeB at h
  cases e : env[i]? with
  | none => rw [e] at h; cases h
  | some o =>
    rw [e] at h
    cases o with
    | none => cases h
    | some c =>
      cases c with
      | own ds => obtain ⟨a, xs, g, _⟩ := E.own i ds e; exact ⟨a, g⟩
      | io ds => obtain ⟨a, xs, g, _⟩ := E.io i ds e; exact ⟨a, g⟩
      | _ => cases h
theorem st_six {tgE e : Expr} {i : Nat} {ie e' : IR} {pos : Pos} (h : PS X (.Assign [tgE] e pos) (tAsg (tI G W X.K e') (gSub (tVar i) (tI G W X.K ie) rSetL))) : PS X (.Assign [tgE] e pos) (tS G W X.K (.six i ie e')) := PS.by_ h fun D σ H q => by
  obtain ⟨H0, M0, A, env, E, q⟩ := q
  rw [evS] at q
  refine take_readS E q fun d v e1 H1 E1 rd s1 u1 h1 => ?_
  by_cases ho : placeB e1 i = true
  · rw [if_pos ho] at h1
    obtain ⟨a, g1⟩ := place_at E1 ho
    refine ⟨_, g1, rd_readS E1 h1 fun k kv e2 H2 E2 rk s2 u2 h2 => ?_⟩
    have rd2 := hold rd E1.aM s2 u2
    cases k with
    | int k =>
      cases h3 : e2[i]? with
      | none => rw [h3] at h2; exact h2.elim
      | some c =>
        rw [h3] at h2
        cases c with
        | none => exact h2.elim
        | some c =>
          cases c with
          | own ds' =>
            dsimp only at h2
            by_cases hk : 0 ≤ k ∧ k < ds'.length
            · rw [if_pos hk] at h2
              obtain ⟨a', xs', f1, f2, f3, f4⟩ := E2.own i ds' h3
              rw [g1] at f1; cases f1
              refine ⟨a, xs', k, k.toNat, rfl, rk.int, f2, ix_in' hk.1 (by rw [← f3.length]; exact hk.2), ?_⟩
              have st : Stp (fun x => x = a) H2 (upd H2 a (.lst (xs'.set k.toNat v))) := Stp.set rfl (pl_at f2)
              have stM : Stp (MM M0 e2 σ) H2 (upd H2 a (.lst (xs'.set k.toNat v))) := st.weak fun x z => z ▸ .inr ⟨i, ds', h3, g1⟩
              obtain ⟨E3, u3, _⟩ := E2.setOwn h3 g1 st upd_same (out := ds'.set k.toNat d) ((RepL.stp stM (fun _ z => z) ds' xs' f3).set (Rep.stp stM (fun _ z => z) d v rd2))
              exact h2 σ _ (st.weak fun x z => z ▸ .inr ⟨i, ds', h3, g1⟩) u3.toS E3
            · rw [if_neg hk] at h2; exact h2.elim
          | io ds' =>
            dsimp only at h2
            by_cases hk : 0 ≤ k ∧ k < ds'.length
            · rw [if_pos hk] at h2
              obtain ⟨a', xs', f1, f0, f2, f3⟩ := E2.io i ds' h3
              rw [g1] at f1; cases f1
              refine ⟨a, xs', k, k.toNat, rfl, rk.int, f2, ix_in' hk.1 (by rw [← f3.length]; exact hk.2), ?_⟩
              have st : Stp (fun x => x = a) H2 (upd H2 a (.lst (xs'.set k.toNat v))) := Stp.set rfl (pl_at f2)
              have stM : Stp (MM M0 e2 σ) H2 (upd H2 a (.lst (xs'.set k.toNat v))) := st.weak fun x z => z ▸ .inl (E2.aM a f0)
              obtain ⟨E3, u3, _⟩ := E2.setIo h3 g1 st upd_same (out := ds'.set k.toNat d) ((RepL.stp stM (fun _ z => z) ds' xs' f3).set (Rep.stp stM (fun _ z => z) d v rd2))
              exact h2 σ _ (st.weak fun x z => z ▸ .inl f0) u3.toS E3
            · rw [if_neg hk] at h2; exact h2.elim
          | _ => exact h2.elim
    | _ => exact h2.elim
  · rw [if_neg ho] at h1; exact h1.elim
end
def cellF (io : Option Nat) (i : Nat) (d : D) : Option Cell := if io = some i then (match d with
  | .lst es => some (.io es)
  | _ => none) else some (.dat d)
def cellsF (io : Option Nat) : Nat → List D → Env
  | _, [] => []
  | i, d :: ds => cellF io i d :: cellsF io (i + 1) ds
def startE (io : Option Nat) (m : Nat) (ds : List D) : Env := cellsF io 0 ds ++ List.replicate (m - ds.length) none
def outE (io : Option Nat) (e : Env) : Option (List D) := match io with
  | none => some []
  | some i => match e[i]? with
    | some (some (.io ds)) => some ds
    | _ => none
/-- what a def with the body b yields: m slots -/
def semB (G : Ctx) (m : Nat) (io : Option Nat) (b : List ST) (ds : List D) : FR := match evSs G b (startE io m ds) with
  | .rt d e => (match outE io e with
    | some out => .ok d out
    | none => .bad)
  | .nx e => (match outE io e with
    | some out => .ok .non out
    | none => .bad)
  | .rl ds e => (match outE io e with
    | some out => .ok (.lst ds) out
    | none => .bad)
  | .exc C f d e => (match outE io e with
    | some out => .exc C f d out
    | none => .bad)
  | _ => .bad
theorem cells_get {io : Option Nat} : ∀ {ds : List D} {n j : Nat} {c : Cell}, (cellsF io n ds)[j]? = some (some c) → ∃ d, ds[j]? = some d ∧ cellF io (n + j) d = some c
  | [], n, j, c, h => by unfold cellsF at h; simp at h
  | d :: ds, n, 0, c, h => by
    unfold cellsF at h
    simp only [List.getElem?_cons_zero, Option.some.injEq] at h
    exact ⟨d, by simp, h⟩
  | d :: ds, n, j + 1, c, h => by
    unfold cellsF at h
    rw [List.getElem?_cons_succ] at h
    obtain ⟨e, e1, e2⟩ := cells_get h
    exact ⟨e, by simpa using e1, by rw [show n + (j + 1) = n + 1 + j by omega]; exact e2⟩
theorem cells_len {io : Option Nat} : ∀ {ds : List D} {n : Nat}, (cellsF io n ds).length = ds.length
  | [], n => rfl
  | d :: ds, n => by unfold cellsF; simp [cells_len]
theorem start_get {io : Option Nat} {m : Nat} {ds : List D} {j : Nat} {c : Cell} (h : (startE io m ds)[j]? = some (some c)) : ∃ d, ds[j]? = some d ∧ cellF io j d = some c := by
  unfold startE at h
  by_cases hj : j < (cellsF io 0 ds).length
  · rw [List.getElem?_append_left hj] at h
    obtain ⟨d, a, b⟩ := cells_get h
    exact ⟨d, a, by rw [Nat.zero_add] at b; exact b⟩
  · rw [List.getElem?_append_right (by omega)] at h
    rw [List.getElem?_replicate] at h
    split at h <;> cases h
theorem start_at {N : List Str} {vs : List V} {j : Nat} {v : V} (h : vs[j]? = some v) : (L2.start N vs)[j]? = some (some v) := by
  unfold L2.start
  have hj : j < vs.length := (List.getElem?_eq_some_iff.mp h).1
  rw [List.getElem?_append_left (by simpa using hj), List.getElem?_map, h]
  rfl
section
variable {K : PySem.W.Frag} {G : Ctx}
theorem env0 {H : Hp} {M : AS} {io : Option Nat} {ds : List D} {vs : List V} {N : List Str} (hl : vs.length ≤ N.length) (hM : MOk M H) (ar : ArgR K H M io ds vs) : EnvR K H M (IoA io vs) (startE io N.length ds) (L2.start N vs) H ∧ ∀ a, ¬ MutAt (startE io N.length ds) (L2.start N vs) a := by
  obtain ⟨len, at_⟩ := ar
  have cells : ∀ {j c}, (startE io N.length ds)[j]? = some (some c) → ∃ d v, ds[j]? = some d ∧ vs[j]? = some v ∧ cellF io j d = some c := fun {j c} h => by
    obtain ⟨d, a, b⟩ := start_get h
    have hj : j < vs.length := by rw [← len]; exact (List.getElem?_eq_some_iff.mp a).1
    exact ⟨d, vs[j], a, List.getElem?_eq_getElem hj, b⟩
  have noM : ∀ a, ¬ MutAt (startE io N.length ds) (L2.start N vs) a := fun a ⟨j, es, e1, e2⟩ => by
    obtain ⟨d, v, h1, h2, h3⟩ := cells e1
    unfold cellF at h3
    split at h3
    · split at h3 <;> cases h3
    · cases h3
  have subM : ∀ a, MM M (startE io N.length ds) (L2.start N vs) a → M a := fun a z => z.elim id fun q => (noM a q).elim
  have isIo : ∀ {j es}, (startE io N.length ds)[j]? = some (some (Cell.io es)) → io = some j ∧ ds[j]? = some (.lst es) ∧ ∃ v, vs[j]? = some v := fun {j es} h => by
    obtain ⟨d, v, h1, h2, h3⟩ := cells h
    unfold cellF at h3
    split at h3
    · rename_i hio
      split at h3
      · cases h3; exact ⟨hio, h1, v, h2⟩
      · cases h3
    · cases h3
  refine ⟨⟨?_, fun a o h _ _ => h, fun _ h => h, hM.tb, hM.al, fun a ⟨i, e1, e2⟩ => ?_, fun a b ⟨i, e1, e2⟩ ⟨j, f1, f2⟩ => ?_, fun j d h => ?_, fun j es h => ?_, fun j es h => ?_, fun j k a es fs h1 h2 h3 h4 => ?_, fun j k es fs h1 h2 => ?_, fun j C ns es h => ?_⟩, noM⟩
  · unfold startE L2.start
    rw [List.length_append, cells_len, List.length_replicate, List.length_append, List.length_map, List.length_replicate, len]
  · have hj : i < ds.length := by rw [len]; exact (List.getElem?_eq_some_iff.mp e2).1
    obtain ⟨a', xs, es, _, z, m, _⟩ := (at_ i ds[i] _ (List.getElem?_eq_getElem hj) e2).2 e1
    cases z; exact m
  · rw [e1] at f1; cases f1
    rw [e2] at f2; cases f2
    rfl
  · obtain ⟨d', v, h1, h2, h3⟩ := cells h
    unfold cellF at h3
    split at h3
    · split at h3 <;> cases h3
    · rename_i hio
      cases h3
      exact ⟨v, start_at h2, Rep.stp Stp.refl subM d v ((at_ j d v h1 h2).1 hio)⟩
  · obtain ⟨d', v, h1, h2, h3⟩ := cells h
    unfold cellF at h3
    split at h3
    · split at h3 <;> cases h3
    · cases h3
  · obtain ⟨hio, h1, v, h2⟩ := isIo h
    obtain ⟨a, xs, es', z1, z2, z3, z4, z5⟩ := (at_ j _ v h1 h2).2 hio
    cases z1
    subst z2
    exact ⟨a, xs, start_at h2, ⟨j, hio, h2⟩, z4, RepL.stp Stp.refl subM es xs z5⟩
  · exact (noM a ⟨j, es, h1, h3⟩).elim
  · have a1 := (isIo h1).1
    have a2 := (isIo h2).1
    rw [a1] at a2
    exact Option.some.inj a2
  · obtain ⟨d', v, h1, h2, h3⟩ := cells h
    unfold cellF at h3
    split at h3
    · split at h3 <;> cases h3
    · cases h3
/-- from a promise to the reading of the body -/
theorem body_read {n : Nat} {io : Option Nat} {b : List ST} {N : List Str} {vs : List V} {H : Hp} {Q : VK} {E : XK} (hn : n ≤ N.length) (h : spF K n io (semB G N.length io b) vs H Q E) :
    tSs G (fun cls d _ H' => E cls d H') K b { nx := fun _ H' => Q .non H', rt := Q } (L2.start N vs) H := by
  obtain ⟨hl, M, ds, hM, ar, h⟩ := h
  obtain ⟨E0, noM⟩ := env0 (N := N) (by rw [hl]; exact hn) hM ar
  have fl : ∀ {e' : Env} {σ' : L2.St} {H' : Hp} {out : List D}, Stp (WW (IoA io vs) (startE io N.length ds) (L2.start N vs)) H H' → EnvR K H M (IoA io vs) e' σ' H' → outE io e' = some out → Stp (IoA io vs) H H' ∧ OutR K H' M io out vs := fun {e' σ' H' out} s E' ho => by
    refine ⟨s.weak fun a z => z.elim id fun q => (noM a q).elim, fun i hi => ?_⟩
    subst hi
    unfold outE at ho
    dsimp only at ho
    cases q : e'[i]? with
    | none => rw [q] at ho; cases ho
    | some c =>
      rw [q] at ho
      cases c with
      | none => cases ho
      | some c =>
        cases c with
        | io es =>
          cases ho
          obtain ⟨a, xs, a1, ⟨j, b1, b2⟩, a3, a4⟩ := E'.io i out q
          cases b1
          exact ⟨a, xs, b2, a3, RepL.stp Stp.refl (fun _ z => .inl z) out xs a4⟩
        | _ => cases ho
  refine ⟨H, M, IoA io vs, startE io N.length ds, E0, ?_⟩
  unfold semB at h
  cases hr : evSs G b (startE io N.length ds) with
  | bad => rw [hr] at h; exact h.elim
  | bk e => rw [hr] at h; exact h.elim
  | ct e => rw [hr] at h; exact h.elim
  | nx e =>
    rw [hr] at h
    dsimp only at h
    cases ho : outE io e with
    | none => rw [ho] at h; exact h.elim
    | some out =>
      rw [ho] at h
      intro σ' H' s u E'
      obtain ⟨f1, f2⟩ := fl s E' ho
      exact h .non H' f1 f2 rep_non
  | rt d e =>
    rw [hr] at h
    dsimp only at h
    cases ho : outE io e with
    | none => rw [ho] at h; exact h.elim
    | some out =>
      rw [ho] at h
      intro σ' v H' s u E' r
      obtain ⟨f1, f2⟩ := fl s E' ho
      exact h v H' f1 f2 (Rep.stp Stp.refl (fun _ z => .inl z) d v r)
  | rl d e =>
    rw [hr] at h
    dsimp only at h
    cases ho : outE io e with
    | none => rw [ho] at h; exact h.elim
    | some out =>
      rw [ho] at h
      intro σ' p vs H' s u E' h0 hM hp r
      obtain ⟨f1, f2⟩ := fl s E' ho
      refine h (.ref p) H' f1 f2 ?_
      unfold Rep
      exact ⟨p, vs, rfl, .inl ⟨hM, Rd.of hp⟩, RepL.stp Stp.refl (fun _ z => .inl z) d vs r⟩
  | exc C f d e =>
    rw [hr] at h
    dsimp only at h
    cases ho : outE io e with
    | none => rw [ho] at h; exact h.elim
    | some out =>
      rw [ho] at h
      intro σ' dd v H' s u E' hd r
      obtain ⟨f1, f2⟩ := fl s E' ho
      exact h dd v H' f1 f2 hd (Rep.stp Stp.refl (fun _ z => .inl z) d v r)
end
section
variable {P : Program} {w : World} {K : PySem.W.Frag} {mg : Str → Option Value} {base : Heap} {G : Ctx}
/-- THE RULE: a def by the text of its body -/
theorem fn_body {x qual : Str} {st : Stmt} {f : Addr} {fd : FuncData} {N ps : List Str} {k : Nat} {io : Option Nat} {b : List ST} (F : Fun K x qual st f fd) (S : FnScope N ps (defScope st)) (hn : ps.length ≤ N.length)
    (hb : ∀ (cdv : Value) (A : Around) (outer : List PySem.Env) (s : Shared) (H : Hp) (E : XK), Room k (A.deeper (envOfC qual (defScope st) s.heap.objs.size f cdv)) →
      PSs (cxOf (L2.CX P w) P w K mg base N qual (defScope st) f cdv A outer s H E) (defBody st) (tSs G (fun cls d _ H' => E cls d H') K b)) :
    FnOk P w K mg base (L2.CX P w) (k + 1) f fd ps (spF K ps.length io (semB G N.length io b)) :=
  fun_okX F S (fun vs H Q E h => h.1) fun cdv A outer s H vs Q E hr h => ⟨_, hb cdv A outer s H E hr, body_read hn h⟩
end
end Mp
set_option maxHeartbeats 4000000
namespace Mp
open PySem L2 PyProof.Rows
variable [TabsW] [GdW]
section
variable {X : Cx} {G : Ctx} {W : WX}
theorem free_set {env : Env} {i j : Nat} {c : Option Cell} (h : i ≠ j) : freeB (env.set i c) j = freeB env j := by
  unfold freeB
  rw [List.getElem?_set_ne h]
theorem st_retl {e : Expr} {m : LM} {pos : Pos} (he : PE X e (tIl G W X.K m)) : PS X (.Return (some e) pos) (tS G W X.K (.retl m)) := PS.by_ (ps_ret he) fun D σ H q => by
  obtain ⟨H0, M0, A, env, E, q⟩ := q
  rw [evS] at q
  refine ⟨H0, M0, A, env, E, (SatS.toS q).mono fun ds e1 H1 _ s1 u1 E1 h1 => ?_⟩
  by_cases hc : ds.length ≤ BIG
  · rw [if_pos hc] at h1
    exact ⟨hc, fun vs p H' s hp h' r => h1 σ p vs H' s.no SubS.refl (E1.keep s) (E1.freshL hp).2 (fun z => (E1.freshL hp).1 (.inl z)) h' (RepL.stp Stp.refl (fun a z => z.elim (fun q => .inl (.inl q)) .inr) ds vs r)⟩
  · rw [if_neg hc] at h1; exact h1.elim
end
def spFr (K : PySem.W.Frag) (n : Nat) (F : List D → FR) : Sp := fun vs H Q E => vs.length = n ∧ ∃ (M : AS) (ds : List D), MOk M H ∧ RepL K H M ds vs ∧ (match F ds with
  | .ok (.lst es) _ => es.length ≤ BIG ∧ ∀ p xs H', Stp NoA H H' → ¬ Lv H p → H' p = some (.lst xs) → RepL K H' (fun a => M a ∨ a = p) es xs → Q (.ref p) H'
  | .exc C f d _ => ∀ dd v H', Stp NoA H H' → H' dd = some (.xd [(f, v)]) → Rep K H' M d v → E (.ref (clsAt K C)) (some dd) H'
  | _ => False)
structure FrF (P : Program) (w : World) (K : PySem.W.Frag) (mg : Str → Option Value) (base : Heap) (k : Nat) (x : Str) (f : Fn) : Prop where
  dbg : (x == ("__debug__" : Str)) = false
  ex : ∃ (a : Addr) (fd : FuncData) (ps : List Str) (sp : Sp) (ds : List Value) (dvs : List V), mg x = some (.ref a) ∧ PySem.W.keepIn K (.ref a) = true ∧ FnOk P w K mg base (L2.CX P w) k a fd ps sp ∧ Binds K fd ps ds ∧ Vals dvs ds ∧
    ∀ vs H Q E, spFr K f.n f.sem vs H Q E → sp (vs ++ dvs) H Q E
section
variable {X : Cx} {G : Ctx} {W : WX}
theorem l_call {k j : Nat} {f : Fn} {x : Str} {e : Expr} {es : List Expr} {is : List IR} {p pos : Pos} (F : FrF X.prog X.w X.K X.mg X.base k x f) (hj : G.frs[j]? = some f) (hr : Room k X.A) (tk : Takes X W) (hg : Gl X x) (ha : PA X (e :: es) (tIs G W X.K is)) (h1 : (e :: es).any starB = false) :
    PE X (.Call (.Name x p) (e :: es) [] pos) (tIl G W X.K (.call j is)) := by
  rw [List.any_cons, Bool.or_eq_false_iff] at h1
  obtain ⟨a, fd, ps, sp, ds, dvs, hm, hk, ok, hb, hd, hs⟩ := F.ex
  refine PE.by_ (pe_callSD ok hr hg hm hk hb hd (fun σ => passAt tk σ) ha F.dbg (star_cons h1.1) (star_none h1.2)) fun σ H Q q => ?_
  obtain ⟨H0, M0, A, env, E, q⟩ := q
  rw [evL, hj] at q
  dsimp only at q
  by_cases hl : is.length = f.n
  · rw [if_pos hl] at q
    refine ⟨H0, M0, A, env, E, (Sat.bind q).mono fun vs e1 H1 he s1 u1 E1 h1 ws hw => hs ws H1 Q _ ?_⟩
    refine ⟨by rw [← hw.length, evs_len G is env vs e1 he]; exact hl, MM M0 e1 σ, vs, E1.mok, hw, ?_⟩
    cases e : f.sem vs with
    | bad => rw [e] at h1; exact h1.elim
    | ok d out =>
      rw [e] at h1
      cases d with
      | lst ds =>
        have h2 := h1 H1 Stp.refl Sub.refl E1
        exact ⟨h2.1, fun p xs H' s hp h' r => h2.2 xs p H' s hp h' r⟩
      | _ => exact h1.elim
    | exc C g d out =>
      rw [e] at h1
      intro dd v H' st hd rv
      exact h1 dd v H' st.no Sub.refl (E1.keep st) hd rv
  · rw [if_neg hl] at q; exact q.elim
/-- what such a body yields -/
def semBF (G : Ctx) (m : Nat) (b : List ST) (ds : List D) : FR := match evSs G b (startE none m ds) with
  | .rl es e => if es.length ≤ BIG then .ok (.lst es) [] else .bad
  | .exc C f d e => .exc C f d []
  | _ => .bad
theorem body_readF {K : PySem.W.Frag} {n : Nat} {b : List ST} {N : List Str} {vs : List V} {H : Hp} {Q : VK} {E : XK} (hn : n ≤ N.length) (h : spFr K n (semBF G N.length b) vs H Q E) :
    tSs G (fun cls d _ H' => E cls d H') K b { nx := fun _ H' => Q .non H', rt := Q } (L2.start N vs) H := by
  obtain ⟨hl, M, ds, hM, rr, h⟩ := h
  have ar : ArgR K H M none ds vs := ⟨rr.length, fun i d v h1 h2 => ⟨fun _ => by
    obtain ⟨v', g1, g2⟩ := rr.get h1
    rw [h2] at g1; cases g1
    exact g2, fun z => nomatch z⟩⟩
  obtain ⟨E0, noM⟩ := env0 (N := N) (by rw [hl]; exact hn) hM ar
  have fl : ∀ {H' : Hp}, Stp (WW (IoA none vs) (startE none N.length ds) (L2.start N vs)) H H' → Stp NoA H H' := fun {H'} s => s.weak fun a z => z.elim (fun ⟨i, z, _⟩ => nomatch z) fun q => (noM a q).elim
  refine ⟨H, M, IoA none vs, startE none N.length ds, E0, ?_⟩
  unfold semBF at h
  cases hr : evSs G b (startE none N.length ds) with
  | rl es e =>
    rw [hr] at h
    dsimp only at h
    by_cases hB : es.length ≤ BIG
    · rw [if_pos hB] at h
      intro σ' p xs H' s u E' h0 hM' hp r
      exact h.2 p xs H' (fl s) h0 hp r
    · rw [if_neg hB] at h; exact h.elim
  | exc C f d e =>
    rw [hr] at h
    intro σ' dd v H' s u E' hd r
    exact h dd v H' (fl s) hd (Rep.stp Stp.refl (fun _ z => .inl z) d v r)
  | _ => rw [hr] at h; exact h.elim
end
section
variable {P : Program} {w : World} {K : PySem.W.Frag} {mg : Str → Option Value} {base : Heap} {G : Ctx}
theorem fn_bodyF {x qual : Str} {st : Stmt} {f : Addr} {fd : FuncData} {N ps : List Str} {k : Nat} {b : List ST} (F : Fun K x qual st f fd) (S : FnScope N ps (defScope st)) (hn : ps.length ≤ N.length)
    (hb : ∀ (cdv : Value) (A : Around) (outer : List PySem.Env) (s : Shared) (H : Hp) (E : XK), Room k (A.deeper (envOfC qual (defScope st) s.heap.objs.size f cdv)) →
      PSs (cxOf (L2.CX P w) P w K mg base N qual (defScope st) f cdv A outer s H E) (defBody st) (tSs G (fun cls d _ H' => E cls d H') K b)) :
    FnOk P w K mg base (L2.CX P w) (k + 1) f fd ps (spFr K ps.length (semBF G N.length b)) :=
  fun_okX F S (fun vs H Q E h => h.1) fun cdv A outer s H vs Q E hr h => ⟨_, hb cdv A outer s H E hr, body_readF hn h⟩
end
section
variable {X : Cx} {G : Ctx} {W : WX}
theorem iota_rep {K : PySem.W.Frag} {H : Hp} {M : AS} : ∀ (n : Nat) (lo : Int), RepL K H M (iotaD lo n) ((List.range n).map fun i => V.int (lo + (i : Nat)))
  | 0, lo => by unfold iotaD RepL; rfl
  | n + 1, lo => by
    have e : ((List.range (n + 1)).map fun i => V.int (lo + (i : Nat))) = V.int lo :: ((List.range n).map fun i => V.int (lo + 1 + (i : Nat))) := by
      rw [List.range_succ_eq_map, List.map_cons, List.map_map]
      congr 1
      · simp
      · refine List.map_congr_left fun i _ => ?_
        show V.int (lo + ((i + 1 : Nat) : Int)) = V.int (lo + 1 + (i : Nat))
        congr 1
        omega
    rw [e]
    unfold iotaD
    exact RepL.cons (rep_int lo) (iota_rep n (lo + 1))
theorem e_lrng {a : Expr} {i : IR} {p1 p2 p3 p4 : Pos} (hc : X.calm = true) (hg : Gl X "list") (hm : X.mg "list" = none) (hg2 : Gl X "range") (hm2 : X.mg "range" = none) (ha : PE X a (tI G W X.K i)) (hs : starB a = false) :
    PE X (.Call (.Name "list" p1) [.Call (.Name "range" p2) [a] [] p3] [] p4) (tI G W X.K (.lrng i)) :=
  PE.by_ (pe_listRg hc hg hm (prg_1 hg2 hm2 ha (star_cons hs)) (star_cons rfl)) fun σ H Q q => by
    obtain ⟨H0, M0, A, env, E, q⟩ := q
    rw [ev] at q
    refine rd_read E q fun d v e1 H1 E1 rd s1 u1 h1 => ?_
    cases d with
    | int j =>
      have h1 : Sat X.K H0 M0 A W (if -1000000 ≤ j ∧ j ≤ BIG then R.ok (.val (.lst (iotaD 0 j.toNat))) e1 else .bad) e1 σ H1 (fun o e1 H1 => ∀ v, OpdR X.K M0 e1 σ H1 o v → Q v H1) := h1
      by_cases hj : -1000000 ≤ j ∧ j ≤ BIG
      · rw [if_pos hj] at h1
        have hB : (BIG : Int) = 100000 := rfl
        refine ⟨j, rd.int, ⟨by omega, by omega, by omega, by omega, by omega⟩, fun q hq => h1 _ (Stp.new hq) Sub.refl (E1.new hq) _ ?_⟩
        have e : rgV 0 j = (List.range j.toNat).map fun i => V.int (0 + (i : Nat)) := by unfold rgV; rw [Int.sub_zero]
        exact rep_new hq (E1.fresh hq).1 (by rw [e]; exact iota_rep _ _)
      · rw [if_neg hj] at h1; exact h1.elim
    | _ => exact h1.elim
def tyVal (K : PySem.W.Frag) : D → Value
  | .non => .type "NoneType"
  | .bl _ => .type "bool"
  | .int _ => .type "int"
  | .str _ => .type "str"
  | .lst _ => .type "list"
  | .tup _ => .type "tuple"
  | .obj C _ _ => .ref (clsAt K C)
  | .raw _ => .none
  | .dct => .type "dict"
  | .fn _ => .none
theorem is_ty {K : PySem.W.Frag} {cs : List Str} (hc : ∀ C, C ∈ cs → IsC K C) {H : Hp} {M : AS} {d : D} {v : V} (r : RepT K H M d v) (k : knownB cs d = true) : TyX K H v (tyVal K d) := by
  cases d with
  | non => rw [r.non]; exact .base .non
  | bl b => rw [r.bl]; exact .base (.bl b)
  | int i => rw [r.int]; exact .base (.int i)
  | str i => rw [r.str]; exact .base (.str i)
  | lst ds =>
    obtain ⟨a, xs, rfl, h, _⟩ := r
    rcases h with (h | ⟨o, h⟩) | ⟨o, its, n, h, hc, _⟩
    · exact .base (.lst h)
    · exact .base (.frz h)
    · exact .kList h hc
  | tup ds =>
    obtain ⟨a, xs, rfl, h, _⟩ := r
    rcases h with h | ⟨o, h⟩
    · exact .base (.tup h)
    · exact .fTuple h
  | obj C ns ds =>
    have r' : Rep K H M (.obj C ns ds) v := r
    unfold Rep at r'
    obtain ⟨a, dx, xs, rfl, _, h, _⟩ := r'
    have hC : C ∈ cs := by
      unfold knownB at k
      simpa using k
    have I := hc C hC
    exact .base (.ins h I.cl I.ha I.hn I.ht I.hm)
  | raw w => cases k
  | fn x => cases k
  | dct =>
    have r' : Rep K H M .dct v := r
    unfold Rep at r'
    obtain ⟨a, _, rfl, _, h⟩ := r'
    exact .base (.dK h)
theorem is_kit {K : PySem.W.Frag} {cs : List Str} {d : D} (k : knownB cs d = true) {T : Ty} {u : Value} (h : IsK K cs T u) : PySem.W.kitOne K (tyVal K d) u = some (tyD T d) := by
  cases d with
  | non => exact h.n
  | bl b => exact h.b.trans (by cases T <;> rfl)
  | int i => exact h.i.trans (by cases T <;> rfl)
  | str i => exact h.s.trans (by cases T <;> rfl)
  | lst ds => exact h.l.trans (by cases T <;> rfl)
  | tup ds => exact h.t.trans (by cases T <;> rfl)
  | obj C ns ds =>
    have hC : C ∈ cs := by
      unfold knownB at k
      simpa using k
    exact (h.c C hC).trans (by cases T <;> rfl)
  | raw w => cases k
  | fn x => cases k
  | dct => exact h.d
theorem e_isin2 {a c1 c2 : Expr} {a' : IR} {T1 T2 : Ty} {v1 v2 : V} {u1 u2 : Value} {k : Nat} {p pos tp : Pos} (hc : ∀ C, C ∈ G.cls → IsC X.K C) (hK1 : IsK X.K G.cls T1 u1) (hK2 : IsK X.K G.cls T2 u2) (hv1 : ClsV v1 u1) (hv2 : ClsV v2 u2) (ha : PE X a (tI G W X.K a'))
    (h1 : PE X c1 (tC v1)) (h2 : PE X c2 (tC v2)) (hg : Gl X "isinstance") (hm : X.mg "isinstance" = none) (s1 : starB a = false) (s2 : starB c1 = false) (s3 : starB c2 = false) :
    PE X (.Call (.Name "isinstance" p) [a, .Tuple [c1, c2] k tp] [] pos) (tI G W X.K (.isin a' [T1, T2])) :=
  PE.by_ (pe_callB call_isiT hg hm (by decide +kernel) (pa_cons ha (pa_cons (pe_tup (pa_cons h1 (pa_cons h2 pa_nil (star_cons s3)) (star_cons s2))) pa_nil (star_cons rfl)) (star_cons s1)) (by decide) (by decide) (star_cons s1) (star_none rfl)) fun σ H Q q => by
    obtain ⟨H0, M0, A, env, E, q⟩ := q
    rw [ev] at q
    refine ⟨H0, M0, A, env, E, (Sat.bind q).mono fun o e1 H1 _ s1 u1 E1 h1 x hx => ?_⟩
    cases e : rdO e1 o with
    | none => rw [e] at h1; exact h1.elim
    | some d =>
      rw [e] at h1
      dsimp only at h1
      by_cases hk : knownB G.cls d = true
      · rw [if_pos hk] at h1
        have hs : sizeLine = 16777216 := sizeLine_eq
        refine ⟨by rw [hs]; show 2 ≤ 16777216; decide, fun t ht => ?_⟩
        have st : Stp NoA H1 (upd H1 t (.tup [v1, v2])) := Stp.new ht
        have hx2 := hx.hold E1.aM st.no Sub.refl
        refine ⟨x, t, [v1, v2], tyVal X.K d, [_, _], tyD T1 d || tyD T2 d, rfl, upd_same, .cons hv1 (.cons hv2 .nil), is_ty hc (hx2.rdT (E1.keep st) e) hk, ?_, ?_⟩
        · unfold PySem.W.kitAny
          rw [is_kit hk hK1]
          cases e1 : tyD T1 d with
          | true => rfl
          | false =>
            unfold PySem.W.kitAny
            dsimp only
            rw [is_kit hk hK2]
            cases e2 : tyD T2 d with
            | true => rfl
            | false => rfl
        · have h2 := h1 _ st.no Sub.refl (E1.keep st) (.bl ([T1, T2].any fun T => tyD T d)) (show Rep X.K (upd H1 t (HO.tup [v1, v2])) (MM M0 e1 σ) (.bl _) (.bl _) from rep_bl _)
          simpa using h2
      · rw [if_neg hk] at h1; exact h1.elim
end
end Mp
set_option maxHeartbeats 4000000
set_option maxHeartbeats 4000000
namespace Mp
open PySem L2 PyProof.Rows
variable [TabsW] [GdW]
theorem list_mulW (l : Addr) (items : Array Value) (n : Nat) (dd : Option Addr) (sl : Array (Option Value)) (x : Int) (u : Tok) (hc0 : ¬(!Builtin.List.listFitsIndex x) = true) (hc1 : ¬items.size * x.toNat > (2 ^ 63 - 1) / 8) (hc2 : ¬Builtin.List.listTooLong (items.size * x.toNat) = true) :
    Meets (Builtin.«list.__mul__» ⟨[.ref l, .int x u], []⟩) (fun _ R s => s.heap.get? l = some { cls := .type "list", dict := dd, data := .seq items n, slots := sl } ∧ R (.ok (.ret (Value.ref s.heap.objs.size))) { s with heap := s.heap.push { cls := Value.type "list", data := Data.seq (List.foldl (fun x1 x2 => x1 ++ x2) #[] (List.replicate (if items.isEmpty = true then 0 else x.toNat) items)) }, toks := s.toks }) :=
  .of_wp fun prog w A R s h => by
    obtain ⟨hp, g, d, tk, os⟩ := s; obtain ⟨hl, h⟩ := h
    have hsz := AutoListH.joined_fits hc2
    wp_walk using wpAny_loadPart' hl; refine wpAny_ite_false (decide_eq_false (Nat.not_lt.mpr hsz)) ?_; wp_walk using wpAny_loadPart' hl; exact ⟨_, rfl, h⟩
theorem int_rmul_listW (a : Int) (t : Tok) (l : Addr) (items : Array Value) (n : Nat) (dd : Option Addr) (sl : Array (Option Value)) :
    Meets (Builtin.«int.__rmul__» ⟨[.int a t, .ref l], []⟩) (fun _ R s => s.heap.get? l = some { cls := .type "list", dict := dd, data := .seq items n, slots := sl } ∧ R (.ok (.ret Value.notImplemented)) s) :=
  .of_wp fun prog w A R s h => by obtain ⟨hp, g, d, tk, os⟩ := s; obtain ⟨hl, h⟩ := h; wp_walk using wpAny_loadPart' hl; exact ⟨_, rfl, h⟩
theorem foldl_rep (its : List Value) : ∀ (n : Nat) (acc : Array Value), List.foldl (fun x1 x2 : Array Value => x1 ++ x2) acc (List.replicate n its.toArray) = acc ++ ((List.replicate n its).flatten).toArray
  | 0, acc => by simp
  | n + 1, acc => by
    rw [List.replicate_succ, List.foldl_cons, foldl_rep its n, List.replicate_succ, List.flatten_cons]
    simp
theorem rep_eq (its : List Value) (n : Nat) : List.foldl (fun x1 x2 : Array Value => x1 ++ x2) #[] (List.replicate (if its.toArray.isEmpty = true then 0 else n) its.toArray) = ((List.replicate n its).flatten).toArray := by
  rw [foldl_rep]
  cases its with
  | nil => simp
  | cons a l => simp
theorem vals_rep {xs : List V} {us : List Value} (h : Vals xs us) : ∀ n : Nat, Vals (List.replicate n xs).flatten (List.replicate n us).flatten
  | 0 => .nil
  | n + 1 => by
    rw [List.replicate_succ, List.replicate_succ, List.flatten_cons, List.flatten_cons]
    exact h.append (vals_rep h n)
/-- a list so many times -/
def rRepR (K : PySem.W.Frag) : V → V → Hp → VK → Prop := fun x y H Q => ∃ (l : Addr) (xs : List V) (j : Int), x = .ref l ∧ y = .int j ∧ SqL K H l xs ∧ 0 ≤ j ∧ j ≤ 100 ∧ xs.length ≤ 100 ∧ ∀ p, H p = none → Q (.ref p) (upd H p (.lst (List.replicate j.toNat xs).flatten))
theorem op_repR {X : Cx} : OpR X (binaryOp .Mult) (rRepR X.K) := by
  intro pins s σ H x y v u Q I rx ry h
  obtain ⟨l, xs, j, rfl, rfl, hH, h0, h1, hz, q⟩ := h
  cases rx
  obtain ⟨t, rfl⟩ := (show ∃ t, u = Value.int j t from ry)
  obtain ⟨its, r, ⟨⟨cls, dd, data, sl⟩, n, ho, hc, hd0, hd⟩, hz1⟩ := I.list hH
  simp only at hc hd
  subst hc hd
  have l1 := r.length
  have hs : sizeLine = 16777216 := sizeLine_eq
  have hm : its.toArray.size * j.toNat ≤ 10000 := by
    rw [List.size_toArray, ← l1]
    exact Nat.le_trans (Nat.mul_le_mul hz (show j.toNat ≤ 100 by omega)) (by decide)
  have hm2 : its.length * j.toNat ≤ 10000 := by rw [List.size_toArray] at hm; exact hm
  have hlen : ((List.replicate j.toNat xs).flatten).length ≤ 10000 := by
    rw [List.length_flatten]
    simp only [List.map_replicate, List.sum_replicate_nat]
    rw [List.size_toArray, ← l1, Nat.mul_comm] at hm
    exact hm
  refine wpAny_binaryOp_repeat_ref (T := "list") (U := "int") (by decide) ⟨_, ho, rfl⟩ (fun s' => typeIs_int s' j t) noFill_list_mul F.fills_int_mul F.slot_int_rmul repeat_list F.slot_int_index.lookup
    (call_meets F.slot_int_rmul (typeIs_int s j t) F.entry_int_rmul (F.args_int_rmul_2 _ _) (int_rmul_listW j t l its.toArray n dd sl)
      ⟨ho, rfl, ⟨_, ho, rfl⟩, call_meets F.slot_list_mul ⟨_, ho, rfl⟩ F.entry_list_mul (F.args_list_mul_2 _ _)
        (list_mulW l its.toArray n dd sl j t (by simp [Builtin.List.listFitsIndex]; omega) (by omega) (by simp only [Builtin.List.listTooLong]; simp; have := hm2; omega))
        ⟨ho, ?_⟩⟩)
  rw [rep_eq]
  exact ⟨.ref _, _, I.lnew (t' := s.toks) (vals_rep r j.toNat) (by omega), rfl, q _ I.fresh⟩
section
variable {X : Cx} {G : Ctx} {W : WX} {a b c : Expr} {a' b' c' : IR} {pos p : Pos} {j : Nat}
theorem xi {n : Int} : PE X (.Constant (.int n) j pos) (tI G W X.K (.c (.int n))) := e_c pe_int fun _ _ => rep_int _
theorem xb {n : Bool} : PE X (.Constant (.bool n) j pos) (tI G W X.K (.c (.bl n))) := e_c pe_bl fun _ _ => rep_bl _
theorem xn : PE X (.Constant .none j pos) (tI G W X.K (.c .non)) := e_c pe_non fun _ _ => rep_non
theorem xs {n : Str} : PE X (.Constant (.str n) j pos) (tI G W X.K (.c (.str n))) := e_c pe_str fun _ _ => rep_str _
theorem xg {x : Str} {n : Int} {t : Nat} (hm : X.mg x = some (.int n t)) (hg : Gl X x) (hd : (x == ("__debug__" : Str)) = false) : PE X (.Name x pos) (tI G W X.K (.c (.int n))) := e_c (v := .int n) (pe_glob hg hm ⟨_, rfl⟩ hd) fun _ _ => rep_int _
theorem RepL.rep {K : PySem.W.Frag} {H : Hp} {M : AS} {ds : List D} {xs : List V} (h : RepL K H M ds xs) : ∀ n : Nat, RepL K H M (List.replicate n ds).flatten (List.replicate n xs).flatten
  | 0 => RepL.nil
  | n + 1 => by
    rw [List.replicate_succ, List.replicate_succ, List.flatten_cons, List.flatten_cons]
    exact h.append (RepL.rep h n)
theorem s_mul' {K : PySem.W.Frag} : OpS K (rOr rMulU (rRepR K)) mulD := by
  intro M x y H p q z Q rp rq hM e k
  cases p with
  | int i =>
    cases q with
    | int j => exact .inl (s_mul M x y H (.int i) (.int j) z Q rp rq hM e k)
    | _ => cases e
  | lst ds =>
    cases q with
    | int j =>
      have e' : (if 0 ≤ j ∧ j ≤ 100 ∧ ds.length ≤ 100 then some (D.lst (List.replicate j.toNat ds).flatten) else none) = some z := e
      by_cases hc : 0 ≤ j ∧ j ≤ 100 ∧ ds.length ≤ 100
      · rw [if_pos hc] at e'
        cases e'
        obtain ⟨la, xs, rfl, h1, r1⟩ := rp
        rw [rq.int]
        exact .inr ⟨la, xs, j, rfl, rfl, h1, hc.1, hc.2.1, by rw [← r1.length]; exact hc.2.2, fun p hp => k _ _ (Stp.new hp) (rep_new hp (hM p hp) (r1.rep j.toNat))⟩
      · rw [if_neg hc] at e'; cases e'
    | _ => cases e
  | _ => cases e
theorem x_add (ha : PE X a (tI G W X.K a')) (hb : PE X b (tI G W X.K b')) : PE X (.BinOp a .Add b pos) (tI G W X.K (.bin .add a' b')) := e_bin op_addU s_add ha hb
theorem x_sub (ha : PE X a (tI G W X.K a')) (hb : PE X b (tI G W X.K b')) : PE X (.BinOp a .Sub b pos) (tI G W X.K (.bin .sub a' b')) := e_bin op_sub s_sub ha hb
theorem x_mul (ha : PE X a (tI G W X.K a')) (hb : PE X b (tI G W X.K b')) : PE X (.BinOp a .Mult b pos) (tI G W X.K (.bin .mul a' b')) := e_bin (OpR.or op_mul op_repR) s_mul' ha hb
theorem x_fdiv (ha : PE X a (tI G W X.K a')) (hb : PE X b (tI G W X.K b')) : PE X (.BinOp a .FloorDiv b pos) (tI G W X.K (.bin .fdiv a' b')) := e_bin op_fdiv s_fdiv ha hb
theorem x_mod (ha : PE X a (tI G W X.K a')) (hb : PE X b (tI G W X.K b')) : PE X (.BinOp a .Mod b pos) (tI G W X.K (.bin .mod a' b')) := e_bin op_mod s_mod ha hb
theorem x_pow (ha : PE X a (tI G W X.K a')) (hb : PE X b (tI G W X.K b')) : PE X (.BinOp a .Pow b pos) (tI G W X.K (.bin .pow a' b')) := e_bin op_pow s_pow ha hb
theorem x_ge (ha : PE X a (tI G W X.K a')) (hb : PE X b (tI G W X.K b')) : PE X (.Compare a [.GtE] [b] pos) (tI G W X.K (.cmp .ge a' b')) := e_cmp op_ge s_ge ha hb (nomark _)
theorem x_eq (hu : X.A.units + 64 < cLine) (ha : PE X a (tI G W X.K a')) (hb : PE X b (tI G W X.K b')) : PE X (.Compare a [.Eq] [b] pos) (tI G W X.K (.cmp .eq a' b')) := e_cmp (op_eqD hu) s_eq ha hb (nomark _)
theorem y_lt (ha : PE X a (tI G W X.K a')) (hb : PE X b (tI G W X.K b')) : PT X (.Compare a [.Lt] [b] pos) (tIt G W X.K (.cmp .lt a' b')) := t_cmp op_lt s_lt ha hb (nomark _)
theorem y_gt (ha : PE X a (tI G W X.K a')) (hb : PE X b (tI G W X.K b')) : PT X (.Compare a [.Gt] [b] pos) (tIt G W X.K (.cmp .gt a' b')) := t_cmp op_gt s_gt ha hb (nomark _)
theorem y_eq (hu : X.A.units + 64 < cLine) (ha : PE X a (tI G W X.K a')) (hb : PE X b (tI G W X.K b')) : PT X (.Compare a [.Eq] [b] pos) (tIt G W X.K (.cmp .eq a' b')) := t_cmp (op_eqD hu) s_eq ha hb (nomark _)
theorem y_ne (hu : X.A.units + 64 < cLine) (ha : PE X a (tI G W X.K a')) (hb : PE X b (tI G W X.K b')) : PT X (.Compare a [.NotEq] [b] pos) (tIt G W X.K (.cmp .ne a' b')) := t_cmp (op_neD hu) s_ne ha hb (nomark _)
theorem y_is (ha : PE X a (tI G W X.K a')) (hb : PE X b (tI G W X.K b')) : PT X (.Compare a [.Is] [b] pos) (tIt G W X.K (.cmp .is_ a' b')) := t_cmp (OpR.or op_isN op_is_bl) s_is ha hb (nomark _)
theorem y_isnot (ha : PE X a (tI G W X.K a')) (hb : PE X b (tI G W X.K b')) : PT X (.Compare a [.IsNot] [b] pos) (tIt G W X.K (.cmp .isnot a' b')) := t_cmp (OpR.or op_notN op_isnot_bl) s_isnot ha hb (nomark _)
theorem any1 (h : starB a = false) : ([a] : List Expr).any starB = false := by rw [List.any_cons, h]; rfl
theorem any2 (h : starB a = false) (h2 : starB b = false) : ([a, b] : List Expr).any starB = false := by rw [List.any_cons, h, List.any_cons, h2]; rfl
theorem b_len (hm : X.mg "len" = none) (hg : Gl X "len") (ha : PE X a (tI G W X.K a')) (hs : starB a = false) : PE X (.Call (.Name "len" p) [a] [] pos) (tI G W X.K (.blt .len [a'])) := e_bltF call_len s_len hg hm (by decide +kernel) (ar_cons ha ar_nil hs) (any1 hs) (by decide) (by decide)
theorem b_int (hm : X.mg "int" = none) (hg : Gl X "int") (ha : PE X a (tI G W X.K a')) (hs : starB a = false) : PE X (.Call (.Name "int" p) [a] [] pos) (tI G W X.K (.blt .int [a'])) := e_bltT call_int1 s_int hg hm (by decide +kernel) (ar_cons ha ar_nil hs) (any1 hs) (by decide) (by decide)
theorem b_max (hc : X.calm = true) (hm : X.mg "max" = none) (hg : Gl X "max") (ha : PE X a (tI G W X.K a')) (hb : PE X b (tI G W X.K b')) (hs : starB a = false) (hs2 : starB b = false) : PE X (.Call (.Name "max" p) [a, b] [] pos) (tI G W X.K (.blt .max2 [a', b'])) := e_bltF (call_max2 hc) s_max2 hg hm (by decide +kernel) (ar_cons ha (ar_cons hb ar_nil hs2) hs) (any2 hs hs2) (by decide) (by decide)
theorem b_min (hc : X.calm = true) (hm : X.mg "min" = none) (hg : Gl X "min") (ha : PE X a (tI G W X.K a')) (hb : PE X b (tI G W X.K b')) (hs : starB a = false) (hs2 : starB b = false) : PE X (.Call (.Name "min" p) [a, b] [] pos) (tI G W X.K (.blt .min2 [a', b'])) := e_bltF (call_min2 hc) s_min2 hg hm (by decide +kernel) (ar_cons ha (ar_cons hb ar_nil hs2) hs) (any2 hs hs2) (by decide) (by decide)
theorem b_tuple (hm : X.mg "tuple" = none) (hg : Gl X "tuple") (ha : PE X a (tI G W X.K a')) (hs : starB a = false) : PE X (.Call (.Name "tuple" p) [a] [] pos) (tI G W X.K (.blt .tuple [a'])) := e_bltT call_tuple_of s_tuple hg hm (by decide +kernel) (ar_cons ha ar_nil hs) (any1 hs) (by decide) (by decide)
theorem b_all (hc : X.calm = true) (hm : X.mg "all" = none) (hg : Gl X "all") (ha : PE X a (tI G W X.K a')) (hs : starB a = false) : PE X (.Call (.Name "all" p) [a] [] pos) (tI G W X.K (.blt .all [a'])) := e_bltF (cr_all hc) s_all hg hm (by decide +kernel) (ar_cons ha ar_nil hs) (any1 hs) (by decide) (by decide)
theorem hu64 {A : Around} {k : Nat} (hr : Room k A) : A.units + 64 < cLine := by have := hr.r.un; omega
end
end Mp
set_option maxHeartbeats 4000000
set_option maxHeartbeats 4000000
namespace Mp
open PySem L2 PyProof.Rows
variable [TabsW] [GdW]
section
variable {X : Cx} {G : Ctx} {W : WX}
def tTl (G : Ctx) (W : WX) (K : PySem.W.Frag) : List (Str × IR) → TS
  | [] => tNext
  | (f, e) :: r => tSeq (sFld K (tVar 0) (tI G W K e) f) (tTl G W K r)
theorem tl_nil : PSs X [] (tTl G W X.K []) := pss_nil
theorem tl_cons {s : Stmt} {ss : List Stmt} {f : Str} {e : IR} {r : List (Str × IR)} (h : PS X s (sFld X.K (tVar 0) (tI G W X.K e) f)) (hr : PSs X ss (tTl G W X.K r)) : PSs X (s :: ss) (tTl G W X.K ((f, e) :: r)) := pss_cons h hr
/-- all the statements: the first ones, then the fields -/
inductive InitB (X : Cx) (G : Ctx) (W : WX) : List Stmt → List ST → List (Str × IR) → Prop where
  | last {ss : List Stmt} {r : List (Str × IR)} (h : PSs X ss (tTl G W X.K r)) : InitB X G W ss [] r
  | step {s : Stmt} {ss : List Stmt} {t : ST} {ts : List ST} {r : List (Str × IR)} (h : PS X s (tS G W X.K t)) (hr : InitB X G W ss ts r) : InitB X G W (s :: ss) (t :: ts) r
end
theorem putF_zip {f : Str} {v : V} : ∀ {ns : List Str} {xs : List V}, ns.length = xs.length → f ∉ ns → putF f v (ns.zip xs) = (ns ++ [f]).zip (xs ++ [v])
  | [], [], _, _ => rfl
  | [], _ :: _, h, _ => by simp at h
  | _ :: _, [], h, _ => by simp at h
  | n :: ns, x :: xs, h, hn => by
    simp only [List.mem_cons, not_or] at hn
    show putF f v ((n, x) :: ns.zip xs) = _
    unfold putF
    rw [if_neg (fun z => hn.1 z.symm), putF_zip (by simpa using h) hn.2]
    rfl
section
variable {K : PySem.W.Frag} {G : Ctx} {W : WX} {H0 : Hp} {M0 : AS} {o dx C : Addr} {σ : L2.St} {D : Ends}
theorem tl_run (hσ : σ[0]? = some (some (.ref o))) (cl : Cls K C) (ho : M0 o) (h0 : ¬ Lv H0 o) : ∀ (es : List (Str × IR)) (env : Env) (H : Hp) (ns : List Str) (xs : List V) (ds out : List Mp.D) (e' : Env), EnvR K H0 M0 NoA env σ H → H o = some (.ins C dx (ns.zip xs)) → ns.length = xs.length → xs.length + es.length < 900 →
    (ns ++ es.map (·.1)).Nodup → (∀ f, f ∈ es.map (·.1) → NoAttr K C f) → RepL K H (MM M0 env σ) ds xs → evs G (es.map (·.2)) env = .ok out e' →
    (∀ H' ys, Stp (fun a => MutAt env σ a ∨ a = o) H H' → H' o = some (.ins C dx ((ns ++ es.map (·.1)).zip ys)) → (ns ++ es.map (·.1)).length = ys.length → RepL K H' M0 (ds ++ out) ys → D.nx σ H') → tTl G W K es D σ H
  | [], env, H, ns, xs, ds, out, e', E, hH, hl, hn, nd, na, r, run, k => by
    rw [List.map_nil, evs] at run
    cases run
    refine k H xs Stp.refl (by simpa using hH) (by simpa using hl) ?_
    rw [List.append_nil]
    exact RepL.stp Stp.refl (fun _ z => .inl z) ds xs r
  | (f, e) :: es, env, H, ns, xs, ds, out, e', E, hH, hl, hn, nd, na, r, run, k => by
    rw [List.map_cons, evs] at run
    cases h1 : ev G e env with
    | bad => unfold R.take at run; rw [h1] at run; cases run
    | exc C' f' d e1 => unfold R.take at run; rw [h1] at run; cases run
    | ok op e1 =>
      unfold R.take at run
      rw [h1] at run
      have run : ((match takeO e1 op with
        | some (d, env') => R.ok d env'
        | none => .bad).bind fun d e1 => (evs G (List.map (fun p : Str × IR => p.2) es) e1).bind fun ds e2 => .ok (d :: ds) e2) = .ok out e' := run
      cases h2 : takeO e1 op with
      | none => rw [h2] at run; cases run
      | some p =>
        obtain ⟨d, e2⟩ := p
        rw [h2] at run
        have run : ((evs G (List.map (fun p : Str × IR => p.2) es) e2).bind fun ds e3 => R.ok (d :: ds) e3) = .ok out e' := run
        cases h3 : evs G (es.map (·.2)) e2 with
        | bad => rw [h3] at run; cases run
        | exc C' f' d e3 => rw [h3] at run; cases run
        | ok outs e3 =>
          rw [h3] at run
          cases run
          refine ⟨H0, M0, NoA, env, E, ?_⟩
          rw [h1]
          intro H1 s1 u1 E1 v hv
          obtain ⟨E2, rd, u2⟩ := E1.take hv h2
          have mE : ∀ {env : Env} {H : Hp}, EnvR K H0 M0 NoA env σ H → ¬ MutAt env σ o := fun {env H} E ⟨j, es, z1, z2⟩ => by
            obtain ⟨b, zs, b1, _, _, b4, _⟩ := E.own j es z1
            rw [z2] at b1; cases b1
            exact b4 ho
          have nW : ¬ WW NoA env σ o := fun z => z.elim id (mE E)
          have h1o : H1 o = some (.ins C dx (ns.zip xs)) := s1.st o _ hH nW nt_ins
          have hf : f ∉ ns := fun z => by
            rw [List.map_cons] at nd
            exact ((List.nodup_append.mp nd).2.2 f z f List.mem_cons_self) rfl
          refine ⟨_, hσ, o, C, dx, ns.zip xs, rfl, h1o, cl, na f List.mem_cons_self, ?_, ?_⟩
          · rw [List.length_zip]
            omega
          · rw [putF_zip hl hf]
            have E3 := E2.setM (o := HO.ins C dx ((ns ++ [f]).zip (xs ++ [v]))) (pl_ati h1o) ho id h0
            have st : Stp (MM M0 e2 σ) H1 (upd H1 o (.ins C dx ((ns ++ [f]).zip (xs ++ [v])))) := Stp.set (.inl ho) (pl_ati h1o)
            have rx1 : RepL K H1 (MM M0 e2 σ) ds xs := RepL.stp (s1.weak (WW.sub E.aM)) (fun a z => z.elim .inl fun q => .inr (u1.own a (u2.own a q))) ds xs r
            refine tl_run hσ cl ho h0 es e2 _ (ns ++ [f]) (xs ++ [v]) (ds ++ [d]) outs _ E3 upd_same (by simp [hl]) (by simp at hn ⊢; omega) (by simpa [List.append_assoc] using nd) (fun g hg => na g (List.mem_cons_of_mem _ hg))
              ((RepL.stp st (fun _ z => z) ds xs rx1).append (RepL.cons (Rep.stp st (fun _ z => z) d v rd) RepL.nil)) h3 fun H' ys s' a1 a2 a3 => ?_
            refine k H' ys ?_ (by simpa [List.append_assoc] using a1) (by simpa [List.append_assoc] using a2) (by simpa [List.append_assoc] using a3)
            refine ((s1.weak fun a z => ?_).trans (Stp.set (.inr rfl) (pl_ati h1o))).trans (s'.weak fun a z => ?_)
            · exact .inl (z.elim False.elim id)
            · exact z.elim (fun q => .inl (u1.own a (u2.own a q))) .inr
end
def startI (m : Nat) (v : V) (ds : List D) : Env := some (.dat (.raw v)) :: startE none m ds
/-- what an __init__ with these statements, then these fields, yields of ds: F says it -/
def InitF (G : Ctx) (m : Nat) (b : List ST) (es : List (Str × IR)) (F : List D → FR) : Prop := ∀ (v : V) (ds : List D), F ds = .bad ∨
  (∃ e out e', evSs G b (startI m v ds) = .nx e ∧ e[0]? = some (some (.dat (.raw v))) ∧ evs G (es.map (·.2)) e = .ok out e' ∧ F ds = .ok .non out) ∨ ∃ C f d e, evSs G b (startI m v ds) = .exc C f d e ∧ F ds = .exc C f d []
section
variable {X : Cx} {K : PySem.W.Frag} {G : Ctx} {W : WX}
/-- the whole body's reading -/
def tIb (G : Ctx) (W : WX) (K : PySem.W.Frag) : List ST → List (Str × IR) → TS
  | [], r => tTl G W K r
  | t :: ts, r => tSeq (tS G W K t) (tIb G W K ts r)
theorem InitB.pss {ss : List Stmt} {ts : List ST} {r : List (Str × IR)} (h : InitB X G W ss ts r) : PSs X ss (tIb G W X.K ts r) := by
  induction h with
  | last h => exact h
  | step h _ ih => exact pss_cons h ih
theorem ib_read {r : List (Str × IR)} {H0 : Hp} {M0 : AS} {D : Ends} : ∀ (ts : List ST) (env : Env) (σ : L2.St) (H : Hp), EnvR K H0 M0 NoA env σ H →
    SatS K H0 M0 NoA W (evSs G ts env) env σ H { D with nx := tTl G W K r D } → tIb G W K ts r D σ H
  | [], env, σ, H, E, q => by
    rw [evSs] at q
    exact q σ H Stp.refl SubS.refl E
  | t :: ts, env, σ, H, E, q => by
    rw [evSs] at q
    refine ⟨H0, M0, NoA, env, E, ?_⟩
    cases h : evS G t env with
    | nx e' =>
      rw [h] at q
      exact fun σ' H' s u E' => ib_read ts e' σ' H' E' (SatS.go (show SatS K H0 M0 NoA W (evSs G ts e') env σ H _ from q) s u)
    | bad => rw [h] at q; exact q
    | rt d e => rw [h] at q; exact q
    | rl d e => rw [h] at q; exact q
    | bk e => rw [h] at q; exact q
    | ct e => rw [h] at q; exact q
    | exc C f d e => rw [h] at q; exact q
theorem env0I {H : Hp} {M : AS} {a : Addr} {ds : List D} {rest : List V} {N : List Str} (hl : rest.length ≤ N.length) (hM : MOk M H) (ha : Lv H a) (r : RepL K H (fun b => M b ∨ b = a) ds rest) :
    EnvR K (fun b => if b = a then none else H b) (fun b => M b ∨ b = a) NoA (startI N.length (.ref a) ds) (some (.ref a) :: L2.start N rest) H ∧ ∀ b, ¬ MutAt (startI N.length (.ref a) ds) (some (.ref a) :: L2.start N rest) b := by
  have ar : ArgR K H (fun b => M b ∨ b = a) none ds rest := ⟨r.length, fun i d v h1 h2 => ⟨fun _ => by
    obtain ⟨v', g1, g2⟩ := r.get h1
    rw [h2] at g1; cases g1
    exact g2, fun z => nomatch z⟩⟩
  obtain ⟨E, noM⟩ := env0 (N := N) hl ⟨fun b z => z.elim (hM.al b) fun q => by rw [q]; exact ha, hM.tb⟩ ar
  have noM' : ∀ b, ¬ MutAt (startI N.length (.ref a) ds) (some (.ref a) :: L2.start N rest) b := fun b ⟨j, es, e1, e2⟩ => by
    cases j with
    | zero => unfold startI at e1; simp at e1
    | succ j => exact noM b ⟨j, es, by unfold startI at e1; simpa using e1, by simpa using e2⟩
  have sub : ∀ b, MM (fun b => M b ∨ b = a) (startI N.length (.ref a) ds) (some (.ref a) :: L2.start N rest) b → MM (fun b => M b ∨ b = a) (startE none N.length ds) (L2.start N rest) b := fun b z => z.elim .inl fun q => (noM' b q).elim
  refine ⟨⟨?_, fun b u h _ _ => ?_, fun b ⟨u, h1, h2⟩ => ⟨u, by dsimp only at h1; split at h1 <;> first | (cases h1; done) | exact h1, h2⟩, hM.tb, E.m0, fun b z => z.elim, fun b c z => z.elim, fun j d h => ?_, fun j es h => ?_, fun j es h => ?_, fun j k b es fs h1 h2 h3 h4 => (noM' b ⟨j, es, h1, h3⟩).elim, fun j k es fs h1 h2 => ?_, fun j C ns es h => ?_⟩, noM'⟩
  · unfold startI; simp [E.len]
  · split at h
    · cases h
    · exact h
  · cases j with
    | zero =>
      unfold startI at h
      simp at h
      subst h
      exact ⟨_, rfl, by unfold Rep; rfl⟩
    | succ j =>
      unfold startI at h
      obtain ⟨v, a1, a2⟩ := E.dat j d (by simpa using h)
      exact ⟨v, by simpa using a1, Rep.stp Stp.refl sub d v a2⟩
  · cases j with
    | zero => unfold startI at h; simp at h
    | succ j =>
      unfold startI at h
      obtain ⟨b, zs, a1, a2, a3, a4, a5⟩ := E.own j es (by simpa using h)
      exact (noM b ⟨j, es, by simpa using h, a1⟩).elim
  · cases j with
    | zero => unfold startI at h; simp at h
    | succ j =>
      unfold startI at h
      obtain ⟨b, zs, a1, ⟨i, a2, _⟩, _⟩ := E.io j es (by simpa using h)
      cases a2
  · cases j with
    | zero => unfold startI at h1; simp at h1
    | succ j =>
      unfold startI at h1
      obtain ⟨b, zs, a1, ⟨i, a2, _⟩, _⟩ := E.io j es (by simpa using h1)
      cases a2
  · cases j with
    | zero => unfold startI at h; simp at h
    | succ j =>
      unfold startI at h
      exact E.slf j C ns es (by simpa using h)
theorem start_consI {x : Str} {N : List Str} {v : V} {rest : List V} : L2.start (x :: N) (v :: rest) = some v :: L2.start N rest := by
  unfold L2.start
  simp
theorem init_read {n : Nat} {C : Str} {F : List D → FR} {b : List ST} {es : List (Str × IR)} {x : Str} {N : List Str} {vs : List V} {H : Hp} {Q : VK} {E : XK} (hF : InitF G N.length b es F) (hn : n ≤ N.length) (cl : Cls K (clsAt K C)) (nd : (es.map (·.1)).Nodup) (na : ∀ f, f ∈ es.map (·.1) → NoAttr K (clsAt K C) f) (hlen : es.length < 900)
    (h : spMk K C n (es.map (·.1)) F vs H Q E) : tIb G (fun cls d _ H' => E cls d H') K b es { nx := fun _ H' => Q .non H', rt := Q } (L2.start (x :: N) vs) H := by
  obtain ⟨M, ds, a, dx, rest, hM, rfl, hl, ha, nM, rr, h⟩ := h
  rw [start_consI]
  have ha' : Lv H a := Lv.ins ha
  obtain ⟨E0, noM⟩ := env0I (N := N) (by rw [hl]; exact hn) hM ha' rr
  have fl : ∀ {H' : Hp}, Stp (WW NoA (startI N.length (.ref a) ds) (some (.ref a) :: L2.start N rest)) H H' → Stp NoA H H' := fun {H'} s => s.weak fun b z => z.elim id fun q => (noM b q).elim
  refine ib_read b _ _ H E0 ?_
  rcases hF (.ref a) ds with z | ⟨e, out, e', z1, z2, z3, z4⟩ | ⟨C', f, d, e, z1, z2⟩
  · rw [z] at h; exact h.elim
  · rw [z4] at h
    rw [z1]
    intro σ' H' s u E'
    have s0 := fl s
    obtain ⟨v0, g1, g2⟩ := E'.dat 0 _ z2
    unfold Rep at g2
    subst g2
    refine tl_run (o := a) (dx := dx) (C := clsAt K C) g1 cl (.inr rfl) (nn_of (if_pos rfl)) es e H' [] [] [] out e' E' (by simpa using s0.st a _ ha id nt_ins) rfl (by simpa using hlen) (by simpa using nd) na RepL.nil z3 fun H'' ys s2 a1 a2 a3 => ?_
    refine h ys H'' ?_ (by simpa using a1) (by simpa using a2) (RepL.stp (M := fun b => M b ∨ b = a) Stp.refl (fun _ z => .inl z) out ys (by simpa using a3))
    refine ⟨fun b o2 e2 nb t => ?_, fun b hb => s2.mo b (s0.mo b hb), fun P q m h => s2.tb P q m (s0.tb P q m h)⟩
    refine s2.st b o2 (s0.st b o2 e2 id t) (fun z => ?_) t
    rcases z with z | z
    · rcases u.own b z with q | q
      · exact noM b q
      · exact q ⟨o2, e2, t⟩
    · exact nb z
  · rw [z2] at h
    rw [z1]
    intro σ' dd v H' s u E' hd r
    exact h dd v H' ((fl s).weak fun _ z => z.elim) hd (Rep.stp Stp.refl (fun _ z => .inl (.inl z)) d v r)
end
section
variable {P : Program} {w : World} {K : PySem.W.Frag} {mg : Str → Option Value} {base : Heap} {G : Ctx}
/-- THE RULE for an __init__ with defaults or without -/
theorem fn_init {x qual self C : Str} {params : Arguments} {body : List Stmt} {scope : Scope} {dvs : List V} {kws : List (Str × V)} {f : Addr} {fd : FuncData} {N ps : List Str} {k n : Nat} {b : List ST} {es : List (Str × IR)} {F : List D → FR} (Fd : FunD K x qual params body scope dvs kws f fd) (S : FnScope (self :: N) (self :: ps) scope) (hn : ps.length = n) (hnN : n ≤ N.length)
    (hF : InitF G N.length b es F) (cl : Cls K (clsAt K C)) (nd : (es.map (·.1)).Nodup) (na : ∀ f, f ∈ es.map (·.1) → NoAttr K (clsAt K C) f) (hlen : es.length < 900)
    (hb : ∀ (cdv : Value) (A : Around) (outer : List PySem.Env) (s : Shared) (H : Hp) (E : XK), Room k (A.deeper (envOfC qual scope s.heap.objs.size f cdv)) →
      InitB (cxOf (L2.CX P w) P w K mg base (self :: N) qual scope f cdv A outer s H E) G (fun cls d _ H' => E cls d H') body b es) :
    FnOk P w K mg base (L2.CX P w) (k + 1) f fd (self :: ps) (spMk K C n (es.map (·.1)) F) :=
  fund_ok Fd S (fun vs H Q E h => by
    obtain ⟨M, ds, a, dx, rest, _, rfl, hl, _⟩ := h
    simp [hl, hn]) fun cdv A outer s H vs Q E hr h => ⟨_, (hb cdv A outer s H E hr).pss, init_read hF hnN cl nd na hlen h⟩
end
end Mp
set_option maxHeartbeats 4000000
namespace Mp
open PySem L2 PyProof.Rows
variable [TabsW] [GdW]
section
variable {P : Program} {w : World} {K : PySem.W.Frag} {mg : Str → Option Value} {base : Heap} {k : Nat} {x : Str} {a : Addr} {fd : FuncData} {ps : List Str}
theorem fnF_mk {n : Nat} {io : Option Nat} {sem : List D → FR} (hd : (x == ("__debug__" : Str)) = false) (hm : mg x = some (.ref a)) (hk : PySem.W.keepIn K (.ref a) = true) (ok : FnOk P w K mg base (L2.CX P w) k a fd ps (spF K n io sem)) (hb : Binds K fd ps []) : FnF P w K mg base k x ⟨n, io, sem⟩ :=
  ⟨hd, a, fd, ps, _, [], [], hm, hk, ok, hb, .nil, fun vs H Q E h => by rw [List.append_nil]; exact h⟩
theorem frF_mk {n : Nat} {io : Option Nat} {sem : List D → FR} (hd : (x == ("__debug__" : Str)) = false) (hm : mg x = some (.ref a)) (hk : PySem.W.keepIn K (.ref a) = true) (ok : FnOk P w K mg base (L2.CX P w) k a fd ps (spFr K n sem)) (hb : Binds K fd ps []) : FrF P w K mg base k x ⟨n, io, sem⟩ :=
  ⟨hd, a, fd, ps, _, [], [], hm, hk, ok, hb, .nil, fun vs H Q E h => by rw [List.append_nil]; exact h⟩
theorem mtF_mk {C m : Str} {n : Nat} {sem : List D → FR} (cl : Cls K (clsAt K C)) (hm : Meth K (clsAt K C) m a) (ok : FnOk P w K mg base (L2.CX P w) k a fd ps (spF K n none sem)) (hb : Binds K fd ps []) : MtF P w K mg base k ⟨C, m, n, sem⟩ :=
  ⟨cl, a, fd, ps, _, [], [], hm, ok, hb, .nil, fun vs H Q E h => by rw [List.append_nil]; exact h⟩
theorem mkF_mk {C : Str} {n : Nat} {ns : List Str} {sem : List D → FR} (hd : (x == ("__debug__" : Str)) = false) (hm : mg x = some (.ref (clsAt K C))) (M : Mk K (clsAt K C) a) (ok : FnOk P w K mg base (L2.CX P w) k a fd ps (spMk K C n ns sem)) (hb : Binds K fd ps []) : MkF P w K mg base k x ⟨C, n, ns, sem⟩ :=
  ⟨hd, a, fd, ps, _, [], [], hm, M, ok, hb, .nil, fun v vs H Q E h => by rw [List.append_nil]; exact h⟩
theorem kit_self {C : Addr} : PySem.W.kitOne K (.ref C) (.ref C) = some true := by unfold PySem.W.kitOne; simp
theorem kit_ct {C : Addr} {T : String} {r : Bool} (hT : PySem.W.kitMeta T = true) (h : PySem.W.subIn K (.ref C) (.type T) = some r) : PySem.W.kitOne K (.ref C) (.type T) = some r := by
  unfold PySem.W.kitOne PySem.W.kitCls
  rw [if_neg (by simp)]
  dsimp only
  rw [if_pos hT]
  exact h
theorem kit_tc {C : Addr} {T : String} {r : Bool} (h0 : PySem.W.isClsIn K C = true) (h1 : PySem.W.typeIn K (.ref C) = some (.type "type")) (h : PySem.W.subIn K (.type T) (.ref C) = some r) : PySem.W.kitOne K (.type T) (.ref C) = some r := by
  unfold PySem.W.kitOne PySem.W.kitCls
  have h0' : (PySem.W.clsIn K C).isSome = true := h0
  rw [if_neg (by simp)]
  dsimp only
  rw [h0', h1]
  exact h
/-- what law(script) promises: for a list of at most 63 ints the answer is True -/
def spLaw (K : PySem.W.Frag) : Sp := fun vs H Q _ => ∃ (a : Addr) (ns : List Int), (∀ P q, (P, q) ∈ TabsW.T → LamX.TabS H P q) ∧ vs = [.ref a] ∧ SqL K H a (ns.map V.int) ∧ ns.length ≤ 63 ∧ ∀ H', Q (.bl true) H'
theorem law_imp {sem : List D → FR} (math : ∀ ns : List Int, ns.length ≤ 63 → ∃ out, sem [.lst (ns.map .int)] = .ok (.bl true) out) {vs : List V} {H : Hp} {Q : VK} {E : XK} (h : spLaw K vs H Q E) : spF K 1 none sem vs H Q E := by
  obtain ⟨a, ns, hT, rfl, hS, hl, q⟩ := h
  have r : Rep K H NoA (.lst (ns.map .int)) (.ref a) := by
    unfold Rep
    exact ⟨a, _, rfl, RdK.ofS id hS, RepL.of_ints ns⟩
  refine ⟨rfl, NoA, [.lst (ns.map .int)], ⟨fun _ z => z.elim, hT⟩, ⟨rfl, fun i d v h1 h2 => ⟨fun _ => ?_, fun z => nomatch z⟩⟩, ?_⟩
  · obtain ⟨v', g1, g2⟩ := (RepL.cons r RepL.nil).get h1
    rw [h2] at g1; cases g1
    exact g2
  · obtain ⟨out, e⟩ := math ns hl
    rw [e]
    intro v H' _ _ rv
    unfold Rep at rv
    rw [rv]
    exact q H'
end
end Mp
set_option maxHeartbeats 4000000
namespace Mp
open PySem L2
variable [TabsW] [GdW]
section
variable {G : Ctx}
theorem R.bind_ok {α β : Type} {a : α} {e : Env} {k : α → Env → R β} : (R.ok a e).bind k = k a e := rfl
theorem eva_vals {io : Option Nat} : ∀ (es : List IR) (n : Nat) (env : Env), (∀ i, io = some i → i < n) → eva G io n es env = (evs G es env).bind fun ds e1 => .ok (ds.map Opd.val, []) e1
  | [], n, env, h => by rw [eva, evs]; rfl
  | e :: es, n, env, h => by
    rw [eva, evs, if_neg (fun z => Nat.lt_irrefl _ (h n z))]
    cases (ev G e env).take with
    | bad => rfl
    | exc C f d e1 => rfl
    | ok d e1 =>
      show ((eva G io (n + 1) es e1).bind fun p e2 => R.ok (Opd.val d :: p.1, p.2) e2) = ((evs G es e1).bind fun ds e2 => R.ok (d :: ds) e2).bind fun ds e1 => .ok (ds.map Opd.val, []) e1
      rw [eva_vals es (n + 1) e1 fun i z => Nat.lt_succ_of_lt (h i z)]
      cases evs G es e1 with
      | bad => rfl
      | exc C f d e1 => rfl
      | ok ds e2 => rfl
theorem rd_vals {env : Env} : ∀ (ds : List D), (ds.map Opd.val).mapM (rdO env) = some ds
  | [] => rfl
  | d :: ds => by rw [List.map_cons, List.mapM_cons, rd_vals ds]; rfl
def runF (env : Env) : FR → R Opd
  | .ok d _ => .ok (.val d) env
  | .exc C f d _ => .exc C f d env
  | .bad => .bad
/-- a call, nothing handed over -/
theorem ev_call {j : Nat} {f : Fn} {es : List IR} {env : Env} (hj : G.fns[j]? = some f) (hio : f.io = none) (hn : es.length = f.n) : ev G (.call j es) env = (evs G es env).bind fun ds e1 => runF e1 (f.sem ds) := by
  rw [ev, hj]
  dsimp only
  rw [if_pos hn, hio, eva_vals (io := none) es 0 env (fun i z => by cases z)]
  cases evs G es env with
  | bad => rfl
  | exc C f d e1 => rfl
  | ok ds e1 =>
    show (match (ds.map Opd.val).mapM (rdO e1) with
      | some ds => frR e1 none [] (f.sem ds)
      | none => .bad) = runF e1 (f.sem ds)
    rw [rd_vals]
    dsimp only
    cases f.sem ds <;> rfl
/-- a call whose first argument is a list that it changes -/
theorem ev_call_io {j i : Nat} {f : Fn} {es : List IR} {env : Env} {ds : List D} (hj : G.fns[j]? = some f) (hio : f.io = some 0) (hn : es.length + 1 = f.n) (hi : env[i]? = some (some (.own ds)) ∨ env[i]? = some (some (.io ds))) :
    ev G (.call j (.v i :: es)) env = (evs G es env).bind fun vs e1 => match (cellAt e1 i).map content with
      | some d0 => frR e1 (some 0) [i] (f.sem (d0 :: vs))
      | none => .bad := by
  rw [ev, hj]
  dsimp only
  rw [if_pos (by rw [List.length_cons]; exact hn), hio, eva, if_pos rfl]
  have hv : ev G (.v i) env = .ok (.pl i) env := by
    rw [ev]
    unfold cellAt
    rcases hi with h | h <;> (rw [h]; rfl)
  rw [hv]
  show ((eva G (some 0) 1 es env).bind fun p e2 => R.ok (Opd.pl i :: p.1, i :: p.2) e2).bind _ = _
  rw [eva_vals es 1 env fun i z => by cases z; decide]
  cases evs G es env with
  | bad => rfl
  | exc C f d e1 => rfl
  | ok vs e1 =>
    show (match (Opd.pl i :: vs.map Opd.val).mapM (rdO e1) with
      | some ds => frR e1 (some 0) [i] (f.sem ds)
      | none => .bad) = _
    rw [List.mapM_cons, rd_vals]
    show (match (do let r ← (cellAt e1 i).map content; let rs ← some vs; pure (r :: rs)) with
      | some ds => frR e1 (some 0) [i] (f.sem ds)
      | none => R.bad) = (match (cellAt e1 i).map content with
      | some d0 => frR e1 (some 0) [i] (f.sem (d0 :: vs))
      | none => .bad)
    cases (cellAt e1 i).map content with
    | none => rfl
    | some d0 => rfl
theorem evq_c {d : D} {env : Env} : ev G (.c d) env = (.ok (.val d) env) := by first | (rw [ev]; done) | (rw [ev]; rfl)
theorem evq_v {i : Nat} {env : Env} : ev G (.v i) env = (match cellAt env i with
    | some (.dat d) => .ok (.val d) env
    | some (.own _) => .ok (.pl i) env
    | some (.io _) => .ok (.pl i) env
    | _ => .bad) := by first | (rw [ev]; done) | (rw [ev]; rfl)
theorem evq_bin {op : BOp} {a : IR} {b : IR} {env : Env} : ev G (.bin op a b) env = ((ev G a env).bind fun x e1 => (ev G b e1).bind fun y e2 => match rdO e2 x, rdO e2 y with
    | some p, some q => lift e2 (binD op p q)
    | _, _ => .bad) := by first | (rw [ev]; done) | (rw [ev]; rfl)
theorem evq_cmp {op : COp} {a : IR} {b : IR} {env : Env} : ev G (.cmp op a b) env = ((ev G a env).bind fun x e1 => (ev G b e1).bind fun y e2 => match rdO e2 x, rdO e2 y with
    | some p, some q => lift e2 ((cmpD op p q).map .bl)
    | _, _ => .bad) := by first | (rw [ev]; done) | (rw [ev]; rfl)
theorem evq_chn {op1 : COp} {op2 : COp} {a : IR} {b : IR} {c : IR} {env : Env} : ev G (.chn op1 op2 a b c) env = ((ev G a env).bind fun x e1 => (ev G b e1).bind fun y e2 => match rdO e2 x, rdO e2 y with
    | some p, some q => (match cmpD op1 p q with
      | some true => (ev G c e2).bind fun z e3 => (match rdO e3 y, rdO e3 z with
        | some p, some q => lift e3 ((cmpD op2 p q).map .bl)
        | _, _ => .bad)
      | some false => .ok (.val (.bl false)) e2
      | none => .bad)
    | _, _ => .bad) := by first | (rw [ev]; done) | (rw [ev]; rfl)
theorem evq_and_ {a : IR} {b : IR} {env : Env} : ev G (.and_ a b) env = ((ev G a env).bind fun x e1 => match (rdO e1 x).bind truD with
    | some true => ev G b e1
    | some false => .ok x e1
    | none => .bad) := by first | (rw [ev]; done) | (rw [ev]; rfl)
theorem evq_or_ {a : IR} {b : IR} {env : Env} : ev G (.or_ a b) env = ((ev G a env).bind fun x e1 => match (rdO e1 x).bind truD with
    | some true => .ok x e1
    | some false => ev G b e1
    | none => .bad) := by first | (rw [ev]; done) | (rw [ev]; rfl)
theorem evq_not_ {a : IR} {env : Env} : ev G (.not_ a) env = ((ev G a env).bind fun x e1 => match (rdO e1 x).bind truD with
    | some b => .ok (.val (.bl (!b))) e1
    | none => .bad) := by first | (rw [ev]; done) | (rw [ev]; rfl)
theorem evq_neg {a : IR} {env : Env} : ev G (.neg a) env = ((ev G a env).bind fun x e1 => match x with
    | .val (.int i) => .ok (.val (.int (-i))) e1
    | _ => .bad) := by first | (rw [ev]; done) | (rw [ev]; rfl)
theorem evq_ite {t : IR} {a : IR} {b : IR} {env : Env} : ev G (.ite t a b) env = ((truR (ev G t env)).bind fun c e1 => if c then ev G a e1 else ev G b e1) := by first | (rw [ev]; done) | (rw [ev]; rfl)
theorem evq_tup {es : List IR} {env : Env} : ev G (.tup es) env = ((evs G es env).bind fun ds e1 => if ds.length ≤ BIG then .ok (.val (.tup ds)) e1 else .bad) := by first | (rw [ev]; done) | (rw [ev]; rfl)
theorem evq_lst {es : List IR} {env : Env} : ev G (.lst es) env = ((evs G es env).bind fun ds e1 => if ds.length ≤ BIG then .ok (.val (.lst ds)) e1 else .bad) := by first | (rw [ev]; done) | (rw [ev]; rfl)
theorem evq_ix {a : IR} {b : IR} {env : Env} : ev G (.ix a b) env = ((ev G a env).bind fun x e1 => (ev G b e1).bind fun y e2 => match rdO e2 x, rdO e2 y with
    | some p, some q => lift e2 (ixD p q)
    | _, _ => .bad) := by first | (rw [ev]; done) | (rw [ev]; rfl)
theorem evq_sl {a : IR} {lo : Option IR} {hi : Option IR} {env : Env} : ev G (.sl a lo hi) env = ((ev G a env).bind fun x e1 => (evo G lo e1).bind fun i e2 => (evo G hi e2).bind fun j e3 => match rdO e3 x with
    | some p => lift e3 (slD p i j)
    | none => .bad) := by first | (rw [ev]; done) | (rw [ev]; rfl)
theorem evq_meth {j : Nat} {o : IR} {es : List IR} {env : Env} : ev G (.meth j o es) env = (match G.mts[j]? with
    | none => .bad
    | some m => (ev G o env).bind fun x e1 => match x with
      | .val (.obj C ns ds) => if C = m.C ∧ es.length + 1 = m.n ∧ ns.contains m.name = false then (evs G es e1).bind fun vs e2 => frR e2 none [] (m.sem (.obj C ns ds :: vs)) else .bad
      | _ => .bad) := by first | (rw [ev]; done) | (rw [ev]; rfl)
theorem evq_make {j : Nat} {es : List IR} {env : Env} : ev G (.make j es) env = (match G.mks[j]? with
    | none => .bad
    | some m => if es.length = m.n then (evs G es env).bind fun vs e1 => (match m.sem vs with
      | .ok _ out => .ok (.val (.obj m.C m.ns out)) e1
      | .exc C f d _ => .exc C f d e1
      | .bad => .bad) else .bad) := by first | (rw [ev]; done) | (rw [ev]; rfl)
theorem evq_blt {b : Blt} {es : List IR} {env : Env} : ev G (.blt b es) env = ((evr G es env).bind fun os e1 => match os.mapM (rdO e1) with
    | some ds => lift e1 (bltD b ds)
    | none => .bad) := by first | (rw [ev]; done) | (rw [ev]; rfl)
theorem evq_isin {a : IR} {ts : List Ty} {env : Env} : ev G (.isin a ts) env = ((ev G a env).bind fun x e1 => match rdO e1 x with
    | some d => if knownB G.cls d then .ok (.val (.bl (ts.any fun t => tyD t d))) e1 else .bad
    | none => .bad) := by first | (rw [ev]; done) | (rw [ev]; rfl)
theorem evq_fld {o : IR} {f : Str} {env : Env} : ev G (.fld o f) env = ((ev G o env).bind fun x e1 => match rdO e1 x with
    | some (.obj C ns ds) => if G.cls.contains C then lift e1 ((ns.zip ds).lookup f) else .bad
    | _ => .bad) := by first | (rw [ev]; done) | (rw [ev]; rfl)
theorem evq_app {i : Nat} {e : IR} {env : Env} : ev G (.app i e) env = (if ownB env i then (ev G e env).take.bind fun d e1 => match e1[i]? with
    | some (some (.own ds)) => if ds.length < BIG then .ok (.val .non) (e1.set i (some (.own (ds ++ [d])))) else .bad
    | _ => .bad
    else .bad) := by first | (rw [ev]; done) | (rw [ev]; rfl)
theorem evq_lrng {e : IR} {env : Env} : ev G (.lrng e) env = ((ev G e env).rd.bind fun d e1 => match d with
    | .int j => if -1000000 ≤ j ∧ j ≤ BIG then .ok (.val (.lst (iotaD 0 j.toNat))) e1 else .bad
    | _ => .bad) := by first | (rw [ev]; done) | (rw [ev]; rfl)
end
end Mp
set_option maxHeartbeats 4000000
namespace Mp
open PySem L2
variable [TabsW] [GdW]
theorem back_same {env0 env' : Env} {i : Nat} (h : env'.set i none = env0.set i none) : backE env0 env' [i] = env0 := by
  unfold backE
  unfold backE
  have e : env'.set i (env0[i]?).join = env0.set i (env0[i]?).join := by
    have e1 : env'.set i (env0[i]?).join = (env'.set i none).set i (env0[i]?).join := by rw [List.set_set]
    rw [e1, h, List.set_set]
  rw [e]
  by_cases hi : i < env0.length
  · rw [List.getElem?_eq_getElem hi]
    simp
  · rw [List.set_eq_of_length_le (by omega)]
theorem free_wipe {env : Env} {i : Nat} (hi : i < env.length) : freeB (env.set i none) i = true := by
  unfold freeB
  rw [List.getElem?_set_self hi]
theorem lcLoop_filter {env0 : Env} {i : Nat} {T : Option (Env → R Bool)} {E : Env → R D} {p : D → Bool} {g : D → D} (hi : i < env0.length) : ∀ (ds : List D) (env : Env), env.set i none = env0.set i none →
    (∀ d, d ∈ ds → (match T with
      | none => R.ok true (env0.set i (some (.dat d)))
      | some t => t (env0.set i (some (.dat d)))) = .ok (p d) (env0.set i (some (.dat d)))) →
    (∀ d, d ∈ ds → p d = true → E (env0.set i (some (.dat d))) = .ok (g d) (env0.set i (some (.dat d)))) →
    ∃ env', lcLoop [i] (.name i) T E ds env = .ok ((ds.filter p).map g) env' ∧ env'.set i none = env0.set i none
  | [], env, h, _, _ => ⟨env, rfl, h⟩
  | d :: ds, env, h, hT, hE => by
    have hb : bindT (.name i) d (wipeE env [i]) = some (env0.set i (some (.dat d))) := by
      show (if freeB (env.set i none) i = true then some ((env.set i none).set i (some (Cell.dat d))) else none) = _
      rw [h, if_pos (free_wipe hi), List.set_set]
    have t := hT d List.mem_cons_self
    unfold lcLoop
    rw [hb]
    dsimp only
    have t' : (match T with
      | none => R.ok true (env0.set i (some (.dat d)))
      | some t => t (env0.set i (some (.dat d)))) = .ok (p d) (env0.set i (some (.dat d))) := t
    cases hp : p d with
    | false =>
      obtain ⟨env', e1, e2⟩ := lcLoop_filter hi ds (env0.set i (some (.dat d))) (by rw [List.set_set]) (fun d hd => hT d (List.mem_cons_of_mem _ hd)) (fun d hd => hE d (List.mem_cons_of_mem _ hd))
      refine ⟨env', ?_, e2⟩
      rw [List.filter_cons_of_neg (by rw [hp]; decide), ← e1]
      rw [hp] at t'
      cases T with
      | none => cases t'
      | some t0 =>
        dsimp only at t' ⊢
        rw [t']
        rfl
    | true =>
      obtain ⟨env', e1, e2⟩ := lcLoop_filter hi ds (env0.set i (some (.dat d))) (by rw [List.set_set]) (fun d hd => hT d (List.mem_cons_of_mem _ hd)) (fun d hd => hE d (List.mem_cons_of_mem _ hd))
      refine ⟨env', ?_, e2⟩
      rw [List.filter_cons_of_pos hp, List.map_cons]
      rw [hp] at t'
      have x := hE d List.mem_cons_self hp
      cases T with
      | none =>
        show ((E (env0.set i (some (.dat d)))).bind fun x env3 => (lcLoop [i] (.name i) none E ds env3).bind fun xs env4 => R.ok (x :: xs) env4) = _
        rw [x]
        show ((lcLoop [i] (.name i) none E ds (env0.set i (some (.dat d)))).bind fun xs env4 => R.ok (g d :: xs) env4) = _
        rw [e1]
        rfl
      | some t0 =>
        dsimp only at t' ⊢
        rw [t']
        show ((E (env0.set i (some (.dat d)))).bind fun x env3 => (lcLoop [i] (.name i) (some t0) E ds env3).bind fun xs env4 => R.ok (x :: xs) env4) = _
        rw [x]
        show ((lcLoop [i] (.name i) (some t0) E ds (env0.set i (some (.dat d)))).bind fun xs env4 => R.ok (g d :: xs) env4) = _
        rw [e1]
        rfl
/-- [e for x in it if t]: the environment is behind it as ahead -/
theorem ev_lc_run {G : Ctx} {i : Nat} {it : IT} {t : Option IR} {e : IR} {env env0 : Env} {ds : List D} (p : D → Bool) (g : D → D) (hit : evi G it env = .ok ds env0) (hl : ds.length ≤ BIG) (hh : hideB env0 i = true) (hi : i < env0.length)
    (hT : ∀ d, d ∈ ds → (match t with
      | none => R.ok true (env0.set i (some (.dat d)))
      | some t => truR (ev G t (env0.set i (some (.dat d))))) = .ok (p d) (env0.set i (some (.dat d))))
    (hE : ∀ d, d ∈ ds → p d = true → (ev G e (env0.set i (some (.dat d)))).take = .ok (g d) (env0.set i (some (.dat d)))) :
    ev G (.lc (.name i) it t e [i]) env = .ok (.val (.lst ((ds.filter p).map g))) env0 := by
  rw [ev_lc, hit]
  show (if ds.length ≤ BIG ∧ [i].all (hideB env0) = true ∧ (tgOwn (.name i)).all (fun j => [i].contains j) = true then _ else _) = _
  rw [if_pos ⟨hl, by simp [hh], by simp [tgOwn]⟩]
  obtain ⟨env', e1, e2⟩ := lcLoop_filter (T := tsF G t) (E := fun x => (ev G e x).take) (p := p) (g := g) hi ds env0 rfl (fun d hd => by
    have := hT d hd
    cases t with
    | none => exact this
    | some t => exact this) hE
  rw [e1]
  show R.ok (Opd.val (D.lst ((ds.filter p).map g))) (backE env0 env' [i]) = _
  rw [back_same e2]
end Mp
set_option maxHeartbeats 4000000
namespace Mp
open PySem L2
variable [TabsW] [GdW]
/-- what a comprehension makes of what is walked: left out, or taken as something -/
inductive LcR (Skip : D → Prop) (Take : D → D → Prop) : List D → List D → Prop where
  | nil : LcR Skip Take [] []
  | skip {d ds xs} : Skip d → LcR Skip Take ds xs → LcR Skip Take (d :: ds) xs
  | take {d x ds xs} : Take d x → LcR Skip Take ds xs → LcR Skip Take (d :: ds) (x :: xs)
/-- the test of a turn -/
def tstR (T : Option (Env → R Bool)) (e : Env) : R Bool := match T with
  | none => .ok true e
  | some t => t e
theorem lcLoop_cons {own : List Nat} {tg : Tgt} {T : Option (Env → R Bool)} {E : Env → R D} {d : D} {ds : List D} {env e1 : Env} (hb : bindT tg d (wipeE env own) = some e1) :
    lcLoop own tg T E (d :: ds) env = (tstR T e1).bind fun b env2 => if b then (E env2).bind fun x env3 => (lcLoop own tg T E ds env3).bind fun xs env4 => .ok (x :: xs) env4 else lcLoop own tg T E ds env2 := by
  rw [lcLoop, hb]
  dsimp only
  cases T <;> rfl
theorem lcLoop_rel {own : List Nat} {tg : Tgt} {T : Option (Env → R Bool)} {E : Env → R D} (Inv : Env → Prop) (Skip : D → Prop) (Take : D → D → Prop) : ∀ (ds : List D) (env : Env), Inv env →
    (∀ d, d ∈ ds → ∀ env, Inv env → ∃ e1, bindT tg d (wipeE env own) = some e1 ∧ ((∃ e2, tstR T e1 = .ok false e2 ∧ Inv e2 ∧ Skip d) ∨ ∃ e2 x e3, tstR T e1 = .ok true e2 ∧ E e2 = .ok x e3 ∧ Inv e3 ∧ Take d x)) →
    ∃ xs env', lcLoop own tg T E ds env = .ok xs env' ∧ Inv env' ∧ LcR Skip Take ds xs
  | [], env, h, _ => ⟨[], env, by rw [lcLoop], h, .nil⟩
  | d :: ds, env, h, hs => by
    obtain ⟨e1, hb, z⟩ := hs d List.mem_cons_self env h
    rw [lcLoop_cons hb]
    rcases z with ⟨e2, h1, h2, h3⟩ | ⟨e2, x, e3, h1, h2, h3, h4⟩
    · obtain ⟨xs, env', g1, g2, g3⟩ := lcLoop_rel Inv Skip Take ds e2 h2 fun d hd => hs d (List.mem_cons_of_mem _ hd)
      refine ⟨xs, env', ?_, g2, .skip h3 g3⟩
      rw [h1]; exact g1
    · obtain ⟨xs, env', g1, g2, g3⟩ := lcLoop_rel Inv Skip Take ds e3 h3 fun d hd => hs d (List.mem_cons_of_mem _ hd)
      refine ⟨x :: xs, env', ?_, g2, .take h4 g3⟩
      rw [h1]
      show ((E e2).bind fun x env3 => (lcLoop own tg T E ds env3).bind fun xs env4 => R.ok (x :: xs) env4) = _
      rw [h2]
      show ((lcLoop own tg T E ds e3).bind fun xs env4 => R.ok (x :: xs) env4) = _
      rw [g1]; rfl
theorem LcR.map {Skip : D → Prop} {Take : D → D → Prop} {g : D → D} (h1 : ∀ d, ¬ Skip d) (h2 : ∀ d x, Take d x → x = g d) {ds xs : List D} (h : LcR Skip Take ds xs) : xs = ds.map g := by
  induction h with
  | nil => rfl
  | skip h _ _ => exact absurd h (h1 _)
  | take h _ ih => rw [h2 _ _ h, ih]; rfl
theorem LcR.len {Skip : D → Prop} {Take : D → D → Prop} (h1 : ∀ d, ¬ Skip d) {ds xs : List D} (h : LcR Skip Take ds xs) : xs.length = ds.length := by
  induction h with
  | nil => rfl
  | skip h _ _ => exact absurd h (h1 _)
  | take h _ ih => rw [List.length_cons, List.length_cons, ih]
theorem LcR.all {Skip : D → Prop} {Take : D → D → Prop} {P : D → Prop} (h2 : ∀ d x, Take d x → P x) {ds xs : List D} (h : LcR Skip Take ds xs) : ∀ x, x ∈ xs → P x := by
  induction h with
  | nil => intro x h; cases h
  | skip _ _ ih => exact ih
  | take h _ ih =>
    intro x hx
    rcases List.mem_cons.mp hx with rfl | hx
    · exact h2 _ _ h
    · exact ih x hx
section
variable {G : Ctx}
theorem ev_lc_rel {own : List Nat} {tg : Tgt} {it : IT} {t : Option IR} {e : IR} {env env0 : Env} {ds : List D} (Inv : Env → Prop) (Skip : D → Prop) (Take : D → D → Prop)
    (hit : evi G it env = .ok ds env0) (hl : ds.length ≤ BIG) (hh : own.all (hideB env0) = true) (ho : (tgOwn tg).all (fun i => own.contains i) = true) (h0 : Inv env0)
    (hs : ∀ d, d ∈ ds → ∀ env, Inv env → ∃ e1, bindT tg d (wipeE env own) = some e1 ∧ ((∃ e2, tstR (tsF G t) e1 = .ok false e2 ∧ Inv e2 ∧ Skip d) ∨ ∃ e2 x e3, tstR (tsF G t) e1 = .ok true e2 ∧ (ev G e e2).take = .ok x e3 ∧ Inv e3 ∧ Take d x)) :
    ∃ xs env', ev G (.lc tg it t e own) env = .ok (.val (.lst xs)) (backE env0 env' own) ∧ Inv env' ∧ LcR Skip Take ds xs := by
  obtain ⟨xs, env', h1, h2, h3⟩ := lcLoop_rel (T := tsF G t) (E := fun x => (ev G e x).take) Inv Skip Take ds env0 h0 hs
  refine ⟨xs, env', ?_, h2, h3⟩
  rw [ev_lc, hit]
  show (if ds.length ≤ BIG ∧ own.all (hideB env0) = true ∧ (tgOwn tg).all (fun j => own.contains j) = true then _ else _) = _
  rw [if_pos ⟨hl, hh, ho⟩, h1]
  rfl
end
end Mp
set_option maxHeartbeats 4000000
namespace Mp
open PySem PySem.Spec PyProof.Rows L2
/-- a clause: its class, and what its suite says of the error at an address, of its class and its dict -/
abbrev Cl := Value × (Addr → Value → Option Addr → TS)
/-- the slot is empty behind the suite -/
def offE (i : Nat) (D : Ends) : Ends := { nx := fun σ2 H2 => D.nx (σ2.set i none) H2, rt := D.rt, bk := fun σ2 H2 => D.bk (σ2.set i none) H2, ct := fun σ2 H2 => D.ct (σ2.set i none) H2 }
/-- the wish of a body under such clauses -/
def wCls (K : PySem.W.Frag) (i : Nat) (D : Ends) : List Cl → WX
  | [] => fun _ _ _ _ => False
  | (k, t) :: r => fun cls d σ H => ∃ b, PySem.W.exmOne K cls k = some b ∧ (b = true → ∀ ea, H ea = none → t ea cls d (offE i D) (σ.set i (some (.ref ea))) H) ∧ (b = false → wCls K i D r cls d σ H)
inductive ClsOk (X : Cx) (n : Str) : List ExceptHandler → List Cl → Prop
  | none_ : ClsOk X n [] []
  | more {x : Str} {k : Value} {t : Addr → Value → Option Addr → TS} {s0 : Stmt} {ss : List Stmt} {p1 p2 : Pos} {hs : List ExceptHandler} {l : List Cl} (nm : Names X x k)
      (su : ∀ (ea : Addr) (eo : Obj) (cls : Value) (d : Option Addr) (pn : List (Addr × Obj)), Zc cls d eo → (∃ vs, eo.data = .fields vs) → PSs (X.suite ea ((ea, eo) :: pn)) (s0 :: ss) (t ea cls d)) (rest : ClsOk X n hs l) :
      ClsOk X n (.ExceptHandler (some (.Name x p1)) (some n) (s0 :: ss) p2 :: hs) ((k, t) :: l)
section
variable {X : Cx} {n : Str} {i : Nat} {body : List Stmt} {e0 : ExceptHandler} {es : List ExceptHandler} {l : List Cl} {pos : Pos} {tb : WX → TS}
theorem ps_try_cls (st : X.stack = X.env :: X.outer) (fr : X.env.frame = some X.env.locals) (nd : X.N.Nodup) (ni : X.N[i]? = some n) (kl : X.env.kindOf n = some .local)
    (bd : ∀ (W : WX) (pn : List (Addr × Obj)) (xe : Value → Shared → Prop), Takes (X.tr pn xe) W → PassesOwn (model X.prog X.w) X.A X.env xe → PSs (X.tr pn xe) body (tb W))
    (ok : ClsOk X n (e0 :: es) l) : PS X (.Try body (e0 :: es) [] [] pos) (fun D σ H => tb (wCls X.K i D l) D σ H) := by
  refine ⟨fun pins s σ H D I h => ?_⟩
  have iok := I.ok
  have frs0 : X.A.frames = some (X.env :: X.outer) := by rw [iok.frames, st]
  have lcl : Loc X.env.scope n := .inl kl
  refine wpAny_Try_except ?_
  refine wpAny_mono ((bd (wCls X.K i D l) (X.pn ++ pins) (fun ev t1 => wpAny (model X.prog X.w) X.A (noteFrame ev X.env) (fun _ t2 => wpAny (model X.prog X.w) X.A (setFlight ev none) (fun _ t3 => wpAny (model X.prog X.w) X.A (handleBy ev X.env (e0 :: es)) (SP X pins D) X.xe t3) X.xe t2) X.xe t1)
    (fun u s' xx => ?_) PassesOwn.looking).run [] s σ H D (I.toTry _) h) (fun fl s1 hsp => ?_) (fun ev s1 he => he)
  · obtain ⟨ea, B, sI, pins', σ', H', cls, d, rfl, J', nb, up, sky, na, os, ag, w⟩ := xx
    have J : Inv X pins σ' H' sI := J'.ofTry iok
    have sky2 : Sky B (X.env :: X.outer) ea (Zc cls d) X.env.locals s'.heap := by rw [← st]; exact sky
    show wpAny (model X.prog X.w) X.A (noteFrame (.ref ea) X.env) _ _ _
    refine Sky.land Zc.steady frs0 fr sky2 fun h3 fl3 up3 => ?_
    have J3 : Inv X pins σ' H' { s' with heap := h3 } := J.landed nb fl3.1 (up.trans up3) os ag
    obtain ⟨eo3, vs3, he3, hz3, hd3⟩ := fl3.there
    have apart : ea ∉ frs (X.env :: X.outer) := fun hm => by
      obtain ⟨_, o2, q2, nf⟩ := fl3.2.2.1.mem hm
      rw [he3] at q2; cases q2
      exact nf _ hd3
    have nL : ea ≠ X.env.locals := fun z => apart (List.mem_filterMap.mpr ⟨X.env, List.mem_cons_self, by rw [fr, z]⟩)
    have nF : ea ∉ X.fs := fun hm => by
      obtain ⟨en, hen, q⟩ := List.mem_filterMap.mp hm
      exact apart (List.mem_filterMap.mpr ⟨en, List.mem_cons_of_mem _ hen, q⟩)
    have S3 := J3.suite he3 hd3 na nL nF
    have LT : PySem.W.Looks (model X.prog X.w) h3 (typeOf (.ref ea)) cls := fun A Q E t k q => wpAny_typeOf_ref (k _ _ he3) (by rw [hz3.1]; exact q)
    have go : ∀ {hs2 : List ExceptHandler} {l2 : List Cl}, ClsOk X n hs2 l2 → wCls X.K i D l2 cls d σ' H' → wpAny (model X.prog X.w) X.A (handleBy (.ref ea) X.env hs2) (SP X pins D) X.xe { s' with heap := h3 } := by
      intro hs2 l2 hk
      induction hk with
      | none_ => intro w; exact w.elim
      | @more x k t s0 ss p1 p2 hs l nm su rest ih =>
        intro w
        obtain ⟨b, hb1, yes, no⟩ := w
        refine wpAny_handleBy_cons (codeAny_handlers_test ?_) (by intro q; cases q)
        have LM := PySem.W.exm_one (M := model X.prog X.w) (J3.kIn) LT hb1
        have tst : ∀ {Q : Value → Shared → Prop} {E : Value → Shared → Prop}, Q k { s' with heap := h3 } → wpAny (model X.prog X.w) (X.A.mark (some (.ref ea))) (eval (.Name x p1) X.env) Q E { s' with heap := h3 } := fun {Q E} q => by
          obtain ⟨hg, hdbg, hm | ⟨hm, hv, hnn⟩⟩ := nm
          · exact ld_glob (X := X.suite ea ((ea, eo3) :: (X.pn ++ pins))) S3 hg hm q hdbg
          · exact ld_blt (X := X.suite ea ((ea, eo3) :: (X.pn ++ pins))) S3 hg hm hv q hnn hdbg
        refine tst (LM.here ?_)
        cases b with
        | false =>
          show wpAny _ X.A (handleBy (.ref ea) X.env hs) _ _ _
          exact ih (no rfl)
        | true =>
          refine codeAny_handlers_suite_as ?_
          refine HandSPX.lands_againZ fl3 fun h4 fl4 up4 => ?_
          have J4 : Inv X pins σ' H' { s' with heap := h4 } := J.landed nb fl4.1 ((up.trans up3).trans up4) os ag
          obtain ⟨eo4, vs4, he4, hz4, hd4⟩ := fl4.there
          have S4 := J4.suite he4 hd4 na nL nF
          refine store_ok (X := X.suite ea ((ea, eo4) :: (X.pn ++ pins))) (v := .ref ea) S4 nd ni lcl rfl (fun s5 S5 => ?_) (.inr kl)
          refine wpAny_mono ((su ea eo4 cls d (X.pn ++ pins) hz4 ⟨_, hd4⟩).run [] s5 _ H' _ S5 (yes rfl ea na)) (fun fl s6 hsp => ?_) (fun _ _ z => False.elim z)
          have fin : ∀ {σ6 : L2.St} {H6 : Hp} {Q : Shared → Prop}, Inv (X.suite ea ((ea, eo4) :: (X.pn ++ pins))) [] σ6 H6 s6 → (∀ s7, Inv X pins (σ6.set i none) H6 s7 → Q s7) →
              wpAny (model X.prog X.w) X.A (do bindName X.env n .none; unbindBehindTheSuite X.env n p2) (fun _ s7 => Q s7) X.xe s6 := fun {σ6 H6 Q} S6 hq => gone_ok (S6.unsuite iok) nd ni kl hq
          cases fl with
          | next => obtain ⟨σ6, H6, S6, q6⟩ := hsp; exact fin S6 fun s7 J7 => ⟨_, _, J7, q6⟩
          | brk => obtain ⟨σ6, H6, S6, q6⟩ := hsp; exact fin S6 fun s7 J7 => ⟨_, _, J7, q6⟩
          | cont => obtain ⟨σ6, H6, S6, q6⟩ := hsp; exact fin S6 fun s7 J7 => ⟨_, _, J7, q6⟩
          | ret u => obtain ⟨v6, σ6, H6, S6, r6, q6⟩ := hsp; exact fin S6 fun s7 J7 => ⟨_, _, _, J7, r6, q6⟩
    exact go ok w
  · cases fl with
    | next => obtain ⟨σ', H', J', q⟩ := hsp; exact wpAny_execs_nil ⟨σ', H', J'.ofTry iok, q⟩
    | brk => obtain ⟨σ', H', J', q⟩ := hsp; exact ⟨σ', H', J'.ofTry iok, q⟩
    | cont => obtain ⟨σ', H', J', q⟩ := hsp; exact ⟨σ', H', J'.ofTry iok, q⟩
    | ret u => obtain ⟨v, σ', H', J', r, q⟩ := hsp; exact ⟨v, σ', H', J'.ofTry iok, r, q⟩
end
end Mp
set_option maxHeartbeats 4000000
namespace Mp
open PySem PySem.Spec PyProof.Rows L2
variable [GdW]
/-- an empty table's object -/
abbrev tab0 : Obj := { cls := .none, data := .fields #[] }
/-- the list that is handed in -/
abbrev lst0 (vs : List Value) : Obj := { cls := .type "list", data := .seq vs.toArray }
theorem tab_lst {vs : List Value} (z : some (lst0 vs) = some tab0) : False := by
  have q : Data.seq vs.toArray _ = Data.fields #[] := congrArg Obj.data (Option.some.inj z)
  cases q
section
variable {P : Program} {w : World} {K : PySem.W.Frag} {mg mb : Str → Option Value} {CX : CXT} {k : Nat} {fa a : Addr} {ts : List (Addr × Addr)} {fd : FuncData} {x : Str} {sp : Sp} {s1 : Shared} {vs : List Value} {ns : List Int}
/-- what stands in the abstract heap at the law's start: the script, if the top has not written it, and the tables -/
structure At0 (H : Hp) (P : Program) (w : World) (K : PySem.W.Frag) (s1 : Shared) (ts : List (Addr × Addr)) (a : Addr) (ns : List Int) : Prop where
  tabs : ∀ p ∈ ts, H p.2 = some (.tbl #[])
  all : ∀ b, H b = none ∨ b ∈ ts.map (·.2) ∨ ∃ o xs, H b = some (.frz o (.lst xs))
  scr : SqL K H a (ns.map V.int)
  hok : HOk P w H s1.heap
  only : ∀ b, H b ≠ none → b = a ∨ b ∈ ts.map (·.2)
  new : H a ≠ none → K.lookup a = none
theorem law_goT (KX : K.In s1.heap) (nsg : s1.heap.Ns mainGlobals mg) (nsb : s1.heap.Ns builtinsNs mb) (bb : ∀ x : Str, x ≠ "__name__" → mb x = bootBuiltins x) (lim : s1.heap.NoLimit) (gs : s1.gens = #[])
    (tT : ∀ p ∈ ts, s1.heap.get? p.2 = some tab0) (tK : ∀ p ∈ ts, K.lookup p.2 = none) (tC : ∀ p ∈ ts, PySem.W.CodeHd s1.heap p.1 p.2)
    (bmn : ∃ (bm : Addr) (ob : Obj), mg "__builtins__" = some (.ref bm) ∧ bm ≠ builtinsNs ∧ s1.heap.get? bm = some ob ∧ ob.cls = .type "module" ∧ ob.dict = some builtinsNs ∧ ob.data = .plain)
    (ha : s1.heap.get? a = some (lst0 vs)) (room : Room k callerA)
    (F : ∀ base : Heap, K.In base → base.Ns mainGlobals mg → (∀ p ∈ ts, LamX.TabB base mg p.1 p.2) → FnOk P w K mg base CX k fa fd [x] sp) (bnd : ∀ (s : Shared) (u : Value), BindsTo s fd ⟨[u], []⟩ [(x, u)])
    (noX : ∀ H e s', CX [] H s1 (fun _ _ _ => False) e s' → False) {H : Hp} (Z : At0 H P w K s1 ts a ns) (want : sp [.ref a] H (fun v _ => v = .bl true) fun _ _ _ => False) :
    codeAny (model P w) callerA (.call (.ref fa) ⟨[.ref a], []⟩) (fun r s' => r = .ok (.ret (.bool true)) ∧ OldK s1.heap s'.heap ∧ s'.os = s1.os ∧ AllBare s'.gens) s1 := by
  have inT : ∀ b : Addr, b ∈ ts.map (·.2) → s1.heap.get? b = some tab0 := fun b hb => by
    obtain ⟨p, hp, rfl⟩ := List.mem_map.mp hb
    exact tT p hp
  have noS : ∀ {b : Addr} {o : Obj}, s1.heap.get? b = some o → (∀ l n, o.data ≠ .seq l n) → o.data ≠ .fields #[] → H b = none := fun {b o} e n1 n2 => by
    cases q : H b with
    | none => rfl
    | some u =>
      rcases Z.only b (by rw [q]; simp) with z | z
      · rw [z, ha] at e; cases e; exact (n1 _ _ rfl).elim
      · rw [inT b z] at e; cases e; exact (n2 rfl).elim
  have noD : ∀ {b : Addr} {o : Obj} {es : Array DictEntry} {ep : Nat}, s1.heap.get? b = some o → o.data = .dict es ep → H b = none := fun {b o es ep} e d =>
    noS e (fun l n z => by rw [d] at z; cases z) fun z => by rw [d] at z; cases z
  have hide : ∀ {b : Addr} {m : Str → Option Value}, s1.heap.Ns b m → (hidT s1.heap H).Ns b m := fun {b m} ⟨o, es, ep, e, d, r⟩ => ⟨o, es, ep, hidT_get e (noD e d), d, r⟩
  have KH : K.In (hidT s1.heap H) := fun b o e => hidT_get (KX b o e) (by
    cases q : H b with
    | none => rfl
    | some u =>
      rcases Z.only b (by rw [q]; simp) with z | z
      · rw [z] at e q; rw [Z.new (by rw [q]; simp)] at e; cases e
      · obtain ⟨p, hp, ep⟩ := List.mem_map.mp z
        rw [← ep, tK p hp] at e; cases e)
  have MH : L2.Mod K mg (hidT s1.heap H) := ⟨KH, hide nsg, ⟨mb, hide nsb, bb⟩, let ⟨mc, h1, h2⟩ := lim; ⟨mc, hide h1, h2⟩⟩
  have TB : ∀ p ∈ ts, LamX.TabB (hidT s1.heap H) mg p.1 p.2 := fun p hp => by
    refine ⟨?_, ?_, fun z => ?_⟩
    · obtain ⟨o, us, file, tf, flags, tg, inF, text, tt, e1, r1, r2, r3, r4, r5, r6, r7, r8, hne⟩ := tC p hp
      exact ⟨o, us, file, tf, flags, tg, inF, text, tt, hidT_get e1 (noS e1 (fun l n z => by rw [r2] at z; cases z) fun z => by rw [r2] at z; cases z; simp at r3), r1, r2, r3, r4, r5, r6, r7, r8, hne⟩
    · obtain ⟨bm, ob, b1, b2, b3, b4, b5, b6⟩ := bmn
      have nG : bm ≠ mainGlobals := fun q => by
        obtain ⟨o, es, ep, e, hd, _⟩ := nsg
        rw [q, e] at b3; cases b3; rw [hd] at b6; cases b6
      have nP : bm ≠ p.2 := fun q => by rw [q, tT p hp] at b3; cases b3; cases b6
      exact ⟨bm, ob, b1, b2, nG, nP, hidT_get b3 (noS b3 (fun l n z => by rw [b6] at z; cases z) fun z => by rw [b6] at z; cases z), b4, b5, b6⟩
    · obtain ⟨o, es, ep, e, hd, _⟩ := nsg
      rw [z, tT p hp] at e; cases e; cases hd
  have e0 : Env0 P w K mg (hidT s1.heap H) callerA [] s1 H := ⟨rfl, MH, fun b o e => of_hidT e, Nat.le_of_eq (hidT_size _ _), trivial, (fun b hb => absurd hb (by simp [frs])), Z.hok, .of_eq gs⟩
  refine codeAny_mono ((F _ KH (hide nsg) TB).go callerA [] s1 H ⟨[.ref a], []⟩ [.ref a] [.ref a] _ _ room e0 (bnd s1 (.ref a)) (.cons rfl .nil) want) fun r s' h => ?_
  match r, h with
  | .error e, h => exact (noX H e s' h).elim
  | .ok .next, h => exact h.elim
  | .ok .brk, h => exact h.elim
  | .ok .cont, h => exact h.elim
  | .ok (.ret u), ⟨v, H', os, bare, un, hok2, r2, q⟩ =>
    have q2 : v = .bl true := q
    subst q2
    obtain rfl : u = Value.bool true := r2
    have kept : ∀ b o, b ∉ ts.map (·.2) → s1.heap.get? b = some o → s'.heap.get? b = some o := fun b o nb e => by
      cases q : H b with
      | none => exact un.keep b o e q (by intro z; cases z) (by simp)
      | some u =>
        rcases Z.all b with z | z | ⟨ob, xs, z⟩
        · rw [q] at z; cases z
        · exact absurd z nb
        · obtain ⟨e1, _⟩ := Z.hok b _ z
          obtain ⟨e2, _⟩ := hok2 b _ (un.frzs b ob _ z)
          rw [e] at e1; cases e1
          exact e2
    have grown : ∀ p ∈ ts, ∃ more : Array Value, s'.heap.get? p.2 = some { cls := .none, data := .fields more } := fun p hp => by
      obtain ⟨more, z⟩ := un.tbls p.2 #[] (Z.tabs p hp)
      exact ⟨_, hok2 p.2 _ z⟩
    refine ⟨rfl, ⟨fun b o e => ?_, fun b o e => ?_⟩, os, bare⟩
    · by_cases hb : b ∈ ts.map (·.2)
      · obtain ⟨p, hp, rfl⟩ := List.mem_map.mp hb
        obtain ⟨more, hm⟩ := grown p hp
        rw [tT p hp] at e; cases e
        exact .inr (.inl ⟨((tC p hp).tab (tT p hp)).isCodeTable, rfl, #[], more, rfl, by rw [Array.empty_append]; exact hm⟩)
      · exact .inl (kept b o hb e)
    · by_cases hb : b ∈ ts.map (·.2)
      · obtain ⟨p, hp, rfl⟩ := List.mem_map.mp hb
        obtain ⟨more, hm⟩ := grown p hp
        exact ⟨_, hm⟩
      · exact ⟨o, kept b o hb e⟩
/-- such a heap there is -/
theorem at0_is (KX : K.In s1.heap) (tT : ∀ p ∈ ts, s1.heap.get? p.2 = some tab0) (ha : s1.heap.get? a = some (lst0 vs)) (hi : IntsAre vs ns) (hl : ns.length ≤ sizeLine) : ∃ H : Hp, At0 H P w K s1 ts a ns := by
  have rv := vals_ints hi
  have lv := hi.length
  have inT : ∀ b : Addr, b ∈ ts.map (·.2) → s1.heap.get? b = some tab0 := fun b hb => by
    obtain ⟨p, hp, rfl⟩ := List.mem_map.mp hb
    exact tT p hp
  have aT : a ∉ ts.map (·.2) := fun z => tab_lst (ha.symm.trans (inT a z))
  have mem : ∀ p ∈ ts, p.2 ∈ ts.map (·.2) := fun p hp => List.mem_map.mpr ⟨p, hp, rfl⟩
  cases hk : K.lookup a with
  | some o =>
    have e := KX a o hk
    rw [ha] at e; cases e
    refine ⟨fun b => if b ∈ ts.map (·.2) then some (.tbl #[]) else none, fun p hp => if_pos (mem p hp), fun b => ?_, .inr ⟨_, vs.toArray, _, hk, rfl, rfl, rfl, by rw [List.size_toArray, lv]; exact hl, by simpa using rv⟩, fun b u z => ?_, fun b z => ?_, fun z => absurd (if_neg aT) z⟩
    · by_cases hb : b ∈ ts.map (·.2)
      · exact .inr (.inl hb)
      · exact .inl (if_neg hb)
    · by_cases hb : b ∈ ts.map (·.2)
      · have z2 := (if_pos hb).symm.trans z; cases z2; exact inT b hb
      · have z2 := (if_neg hb).symm.trans z; cases z2
    · by_cases hb : b ∈ ts.map (·.2)
      · exact .inr hb
      · exact absurd (if_neg hb) z
  | none =>
    refine ⟨fun b => if b = a then some (.frz (lst0 vs) (.lst (ns.map V.int))) else if b ∈ ts.map (·.2) then some (.tbl #[]) else none, fun p hp => (if_neg (show ¬ p.2 = a from fun z => aT (by rw [← z]; exact mem p hp))).trans (if_pos (mem p hp)), fun b => ?_, .inl (.inr ⟨lst0 vs, if_pos rfl⟩), fun b u z => ?_, fun b z => ?_, fun _ => hk⟩
    · by_cases hb : b = a
      · exact .inr (.inr ⟨_, _, if_pos hb⟩)
      · by_cases hb2 : b ∈ ts.map (·.2)
        · exact .inr (.inl hb2)
        · exact .inl ((if_neg hb).trans (if_neg hb2))
    · by_cases hb : b = a
      · have z2 := (if_pos hb).symm.trans z; cases z2; rw [hb]
        exact ⟨ha, by rw [List.length_map]; exact hl, vs, _, rv, ha⟩
      · have z1 := (if_neg hb).symm.trans z
        by_cases hb2 : b ∈ ts.map (·.2)
        · have z2 := (if_pos hb2).symm.trans z1; cases z2; exact inT b hb2
        · have z2 := (if_neg hb2).symm.trans z1; cases z2
    · by_cases hb : b = a
      · exact .inl hb
      · by_cases hb2 : b ∈ ts.map (·.2)
        · exact .inr hb2
        · exact absurd ((if_neg hb).trans (if_neg hb2)) z
end
/-- what is known of the law's promise where the call starts: the tables of the defs that make lambdas, and the promise over them -/
def LawG (l : PySem.W.OpenLaw) (w : World) (K : PySem.W.Frag) (CX : CXT) (k n : Nat) (x : Str) (mg : Str → Option Value) (fa : Addr) (h : Heap) : Prop :=
  ∃ (fd : FuncData) (ts : List (Addr × Addr)) (sp : Sp), (∀ p ∈ ts, h.get? p.2 = some tab0) ∧ (∀ p ∈ ts, K.lookup p.2 = none) ∧ (∀ p ∈ ts, PySem.W.CodeHd h p.1 p.2) ∧ (∀ (s : Shared) (u : Value), BindsTo s fd ⟨[u], []⟩ [(x, u)]) ∧
    (∀ (H : Hp) (a : Addr) (ns : List Int), ns.length ≤ n → (∀ p ∈ ts, H p.2 = some (.tbl #[])) → SqL K H a (ns.map V.int) → sp [.ref a] H (fun v _ => v = .bl true) fun _ _ _ => False) ∧
    ∀ base : Heap, K.In base → base.Ns mainGlobals mg → (∀ p ∈ ts, LamX.TabB base mg p.1 p.2) → FnOk l.prog w K mg base CX k fa fd [x] sp
theorem walkG {l : PySem.W.OpenLaw} {n k : Nat} {q : Program} {loose : List Str} {XP : (Str → Option Value) → Heap → Prop} {YP : World → Heap → Prop} {d : DefRec} {K : Params → PySem.W.Frag} {x : Str}
    (hn : l.most = some n) (hn2 : n ≤ sizeLine) (hdf : d.params.defaults = []) (hr : Room k callerA) (hY : ∀ (w : World) (h : Heap), YP w h → (K w.params).In h)
    (F : ∀ (w : World) (mg mb : Str → Option Value) (fa : Addr) (h : Heap) (s₀ : Shared), PySem.W.Ground q loose [] XP w s₀ mg mb h → YP w h → (K w.params).In h → h.Ns mainGlobals mg → mg d.name = some (.ref fa) → LawG l w (K w.params) (L2.CX l.prog w) k n x mg fa h) :
    PySem.W.WalkO q loose XP YP l.row.toRowW d [] (fun f vs => PySem.call f vs) := by
  refine _root_.Att.attach_callB hn hdf fun w s₀ s₁ mg mb fa o pm cd doc a vs ns G Y ho hd hcd hmg hobj hints hlen hbits hg => ?_
  have KX := hY w _ Y
  obtain ⟨fd, ts, sp, tT, tK, tC, bnd, want, ok⟩ := F w mg mb fa _ s₀ G Y KX G.T.g hmg
  obtain ⟨H, Z⟩ := at0_is (P := l.prog) (w := w) (K := K w.params) (ts := ts) KX tT hobj hints (Nat.le_trans hlen hn2)
  exact law_goT KX G.T.g G.T.b G.T.builtins G.T.nolimit hg tT tK tC G.T.bmain hobj hr ok bnd (fun _ _ _ ⟨_, _, _, _, _, _, _, _, _, _, _, _, z⟩ => z) Z (want H a ns hlen Z.tabs Z.scr)
/-- a def's code object and its table, empty at the start -/
theorem tab_at {q : Program} {loose : List Str} {XP : (Str → Option Value) → Heap → Prop} {w : World} {s₀ : Shared} {mg mb : Str → Option Value} {h : Heap} {K : PySem.W.Frag} {d : DefRec} {x : Str} {c P : Addr} (G : PySem.W.Ground q loose [] XP w s₀ mg mb h) (X : K.In h) (hr : (recsOf q).find? (fun e => e.name == x) = some d) (ht : PySem.W.tabIn K x = some (c, P)) :
    PySem.W.CodeHd h c P ∧ h.get? P = some tab0 := PySem.W.tab_of G.T X hr ht
end Mp
set_option maxHeartbeats 4000000
namespace Mp
open PySem PySem.Spec PyProof.Rows L2
/-- repr(x): x's data and how it is shown -/
def rRepr (K : PySem.W.Frag) (A : Around) : List V → Hp → VK → Prop := fun xs H Q => ∃ (x : V) (p : PyData), xs = [x] ∧ Dp K H x p ∧ p.showable = true ∧ p.hasDict = false ∧ (∀ i, p = .int i → i.natAbs.log2 < 1920) ∧ p.shown.length ≤ sizeLine ∧ A.units + (p.depth + 1) < cLine ∧ Q (.str p.shown) H
section
variable {X : Cx}
theorem call_repr (hg : X.A.guards = some []) : CallR X (.builtin "repr") (rRepr X.K X.A) := by
  intro pins s σ H xs us Q I r h
  obtain ⟨x, p, rfl, dp, hs, hd, hi, hz, hu, q⟩ := h
  obtain ⟨u, rfl, ru⟩ := vals1 r
  obtain ⟨as, rd⟩ := Dp.reads I p x u dp ru
  have viaR : ∀ a : Addr, u = .ref a → wpAny (model X.prog X.w) X.A (call (.builtin "repr") [u]) (EP X pins σ Q) X.xe s := fun a e => by
    subst e
    exact repr_of_reads' rd hs (fun z => by rw [hd] at z; cases z) hg hu (fun _ _ e => e) (fun h' v tk hk => ⟨.str p.shown, H, I.kept hk, ⟨v, rfl⟩, q⟩) hz
  cases dp with
  | non => cases ru; exact PySem.P.repr_of_none ⟨.str _, H, I.tok _, ⟨_, rfl⟩, q⟩
  | bl b => cases ru; exact PySem.P.repr_of_bool ⟨.str _, H, I.tok _, ⟨_, by cases b <;> rfl⟩, q⟩
  | int i =>
    obtain ⟨t, rfl⟩ := ru
    exact PySem.P.repr_of_int (hi i rfl) ⟨.str _, H, I.tok _, ⟨_, rfl⟩, q⟩
  | str a =>
    obtain ⟨t, rfl⟩ := ru
    exact PySem.P.repr_of_str ⟨.str _, H, I.tok _, ⟨_, rfl⟩, q⟩ hz
  | _ => exact viaR _ ru
end
end Mp
set_option maxHeartbeats 4000000
namespace Mp
open PySem PySem.Spec PyProof.Rows L2
variable [TabsW] [GdW]
theorem showB_of {p : PyData} (h : showB p = true) : p.showable = true ∧ p.hasDict = false ∧ (∀ i, p = .int i → i.natAbs.log2 < 1920) ∧ p.shown.length ≤ BIG ∧ p.depth ≤ 60 := by
  unfold showB at h
  simp only [Bool.and_eq_true, Bool.not_eq_true', decide_eq_true_eq] at h
  obtain ⟨⟨⟨⟨h1, h2⟩, h3⟩, h4⟩, h5⟩ := h
  refine ⟨h1, h2, fun i e => ?_, h4, h5⟩
  subst e
  simpa using h3
theorem dp_top {K : PySem.W.Frag} {H : Hp} {M : AS} {d : D} {x : V} {p : PyData} (r : RepT K H M d x) (t : toPy d = some p) : Dp K H x p := dp_of d x p r.loose t
/-- repr of data -/
theorem s_repr {k : Nat} {K : PySem.W.Frag} {A : Around} (hr : L2.Room k A) : CaS K (rRepr K A) (bltD .repr) := by
  intro M xs H ps z Q r hM e kk
  obtain ⟨d, x, rfl, rfl, rd⟩ := one_of r e rfl (fun a b c => by cases a <;> rfl)
  have e : reprD d = some z := e
  unfold reprD at e
  cases h : toPy d with
  | none => rw [h] at e; cases e
  | some p =>
    rw [h] at e
    dsimp only at e
    by_cases hs : showB p = true
    · rw [if_pos hs] at e; cases e
      obtain ⟨h1, h2, h3, h4, h5⟩ := showB_of hs
      have hz : sizeLine = 16777216 := sizeLine_eq
      have hu := hr.units
      exact ⟨x, p, rfl, dp_top rd h, h1, h2, h3, by unfold BIG at h4; omega, by omega, kk _ _ Stp.refl (by unfold Rep; rfl)⟩
    · rw [if_neg hs] at e; cases e
def tellV (K : PySem.W.Frag) (H : Hp) (rep : Bool) (v w : V) : Prop := match rep with
  | true => ∃ p, Dp K H v p ∧ showB p = true ∧ w = .str p.shown
  | false => w = v
/-- the error is c's, and what is told of it -/
def saidC (K : PySem.W.Frag) (c : HC) (cls : Value) (d : Option Addr) (H : Hp) (Q : VK) : Prop :=
  cls = .ref (clsAt K c.C) ∧ ∃ (dd : Addr) (v w : V), d = some dd ∧ H dd = some (.xd [(c.f, v)]) ∧ tellV K H c.rep v w ∧ ∀ l, H l = none → Q (.ref l) (upd H l (.lst [.str c.lab, w]))
def wHC (K : PySem.W.Frag) : List HC → Value → Option Addr → Hp → VK → Prop
  | [], _, _, _, _ => False
  | c :: cs, cls, d, H, Q => ∃ b, PySem.W.exmOne K cls (.ref (clsAt K c.C)) = some b ∧ (b = true → saidC K c cls d H Q) ∧ (b = false → wHC K cs cls d H Q)
/-- what a clause's suite says -/
def clT (K : PySem.W.Frag) (i : Nat) (c : HC) : Addr → Value → Option Addr → TS := fun ea cls d D σ H => (i < σ.length → σ[i]? = some (some (.ref ea))) ∧ saidC K c cls d H D.rt
def clOf (K : PySem.W.Frag) (i : Nat) (c : HC) : Cl := (.ref (clsAt K c.C), clT K i c)
theorem wHC_cls {K : PySem.W.Frag} {i : Nat} {D : Ends} {cls : Value} {d : Option Addr} {σ : L2.St} {H : Hp} : ∀ {cs : List HC}, wHC K cs cls d H D.rt → wCls K i D (cs.map (clOf K i)) cls d σ H
  | [], h => h.elim
  | c :: cs, h => by
    obtain ⟨b, h1, h2, h3⟩ := h
    exact ⟨b, h1, fun hb ea _ => ⟨fun hi => List.getElem?_set_self (by simpa using hi), h2 hb⟩, fun hb => wHC_cls (h3 hb)⟩
/-- e.f, e the error of a suite -/
def tBy (C : Addr) (f : Str) (a : Addr) (cls : Value) (d : Option Addr) (te : TE) : TE := fun σ H Q => te σ H fun x H1 => x = .ref a ∧ cls = .ref C ∧ ∃ (dd : Addr) (v : V), d = some dd ∧ H1 dd = some (.xd [(f, v)]) ∧ Q v H1
section
variable {Y : Cx} {c : HC} {i : Nat} {n : Str} {ea : Addr} {eo : Obj} {cls : Value} {d : Option Addr} {pn : List (Addr × Obj)} {p1 p2 p3 p4 p5 p6 p7 : Pos} {j : Nat}
theorem cl_rep {k : Nat} (hrep : c.rep = true) (by_ : PE (Y.suite ea ((ea, eo) :: pn)) (.Attribute (.Name n p1) c.f p2) (tBy (clsAt Y.K c.C) c.f ea cls d (tVar i))) (hi : i < Y.N.length) (hgd : Y.A.guards = some []) (hu : Y.A.units + 64 < cLine) (hg : Gl Y "repr") (hm : Y.mg "repr" = none) :
    PSs (Y.suite ea ((ea, eo) :: pn)) [.Return (some (.List [.Constant (.str c.lab) j p3, .Call (.Name "repr" p4) [.Attribute (.Name n p1) c.f p2] [] p5] p6)) p7] (clT Y.K i c ea cls d) := by
  have cr : CallR (Y.suite ea ((ea, eo) :: pn)) (.builtin "repr") (rRepr Y.K Y.A) := call_repr (X := Y.suite ea ((ea, eo) :: pn)) hgd
  have pr := pss_one (ps_ret (pos := p7) (pe_lst (pos := p6) (pa_cons (pe_str (X := Y.suite ea ((ea, eo) :: pn)) (x := c.lab) (j := j) (pos := p3)) (pa_cons (pe_callB (p := p4) (pos := p5) cr hg hm rfl (pa_cons by_ pa_nil)) pa_nil))))
  refine ⟨fun pins s σ H D I h => pr.run pins s σ H D I ?_⟩
  obtain ⟨h0, h1, dd, v, w, h2, h3, h4, h5⟩ := h
  have hl : σ.length = Y.N.length := I.len
  rw [hrep] at h4
  obtain ⟨p, q1, q2, rfl⟩ := h4
  obtain ⟨g1, g2, g3, g4, g5⟩ := showB_of q2
  have hz : sizeLine = 16777216 := sizeLine_eq
  refine ⟨.ref ea, h0 (by rw [hl]; exact hi), rfl, h1, dd, v, h2, h3, v, p, rfl, q1, g1, g2, g3, by unfold BIG at g4; omega, ?_, ?_, ?_⟩
  · have : (Y.suite ea ((ea, eo) :: pn)).A.units = Y.A.units := rfl
    omega
  · show 2 ≤ sizeLine
    omega
  · exact h5
theorem cl_dat (hrep : c.rep = false) (by_ : PE (Y.suite ea ((ea, eo) :: pn)) (.Attribute (.Name n p1) c.f p2) (tBy (clsAt Y.K c.C) c.f ea cls d (tVar i))) (hi : i < Y.N.length) :
    PSs (Y.suite ea ((ea, eo) :: pn)) [.Return (some (.List [.Constant (.str c.lab) j p3, .Attribute (.Name n p1) c.f p2] p6)) p7] (clT Y.K i c ea cls d) := by
  have pr := pss_one (ps_ret (pos := p7) (pe_lst (pos := p6) (pa_cons (pe_str (X := Y.suite ea ((ea, eo) :: pn)) (x := c.lab) (j := j) (pos := p3)) (pa_cons by_ pa_nil))))
  refine ⟨fun pins s σ H D I h => pr.run pins s σ H D I ?_⟩
  obtain ⟨h0, h1, dd, v, w, h2, h3, h4, h5⟩ := h
  have hl : σ.length = Y.N.length := I.len
  rw [hrep] at h4
  have h4 : w = v := h4
  subst h4
  have hz : sizeLine = 16777216 := sizeLine_eq
  refine ⟨.ref ea, h0 (by rw [hl]; exact hi), rfl, h1, dd, w, h2, h3, ?_, h5⟩
  show 2 ≤ sizeLine
  omega
end
end Mp
set_option maxHeartbeats 4000000
namespace Mp
open PySem PySem.Spec PyProof.Rows L2
variable [TabsW] [GdW]
structure ClsFacts (K : PySem.W.Frag) (cs : List HC) : Prop where
  ex : ∀ c ∈ cs, ∀ c' ∈ cs, PySem.W.exmOne K (.ref (clsAt K c.C)) (.ref (clsAt K c'.C)) = some (decide (c.C = c'.C))
theorem hear_mem {C f : Str} {d x : D} : ∀ {cs : List HC}, hear cs C f d = some x → ∃ c ∈ cs, C = c.C ∧ f = c.f
  | [], h => by cases h
  | c :: cs, h => by
    unfold hear at h
    by_cases h1 : C = c.C
    · rw [if_pos h1] at h
      by_cases h2 : f = c.f
      · exact ⟨c, List.mem_cons_self, h1, h2⟩
      · rw [if_neg h2] at h; cases h
    · rw [if_neg h1] at h
      obtain ⟨c', m, z⟩ := hear_mem h
      exact ⟨c', List.mem_cons_of_mem _ m, z⟩
theorem hear_said {K : PySem.W.Frag} {all : List HC} (F : ClsFacts K all) {C f : Str} {d x : D} {dd : Addr} {v : V} {H : Hp} {M : AS} {Q : VK} {c0 : HC} (m0 : c0 ∈ all) (e0 : C = c0.C) (hd : H dd = some (.xd [(f, v)])) (rd : Rep K H M d v)
    (k : ∀ l xs ds, x = .lst ds → H l = none → RepL K H M ds xs → Q (.ref l) (upd H l (.lst xs))) : ∀ {cs : List HC}, (∀ c ∈ cs, c ∈ all) → hear cs C f d = some x → wHC K cs (.ref (clsAt K C)) (some dd) H Q
  | [], _, h => by cases h
  | c :: cs, hm, h => by
    have hex := F.ex c0 m0 c (hm c List.mem_cons_self)
    rw [← e0] at hex
    refine ⟨_, hex, fun hb => ?_, fun hb => ?_⟩
    · have hC : C = c.C := of_decide_eq_true hb
      unfold hear at h
      rw [if_pos hC] at h
      by_cases hf : f = c.f
      · rw [if_pos hf] at h
        refine ⟨by rw [hC], dd, v, ?_⟩
        cases hr : c.rep with
        | false =>
          rw [hr] at h
          cases h
          exact ⟨v, rfl, by rw [← hf]; exact hd, rfl, fun l hl => k l _ _ rfl hl (RepL.cons (by unfold Rep; rfl) (RepL.cons rd RepL.nil))⟩
        | true =>
          rw [hr, if_pos rfl] at h
          unfold reprD at h
          cases ht : toPy d with
          | none => rw [ht] at h; cases h
          | some p =>
            rw [ht] at h
            dsimp only at h
            by_cases hs : showB p = true
            · rw [if_pos hs] at h
              cases h
              exact ⟨.str p.shown, rfl, by rw [← hf]; exact hd, ⟨p, dp_of d v p rd ht, hs, rfl⟩, fun l hl => k l _ _ rfl hl (RepL.cons (by unfold Rep; rfl) (RepL.cons (by unfold Rep; rfl) RepL.nil))⟩
            · rw [if_neg hs] at h; cases h
      · rw [if_neg hf] at h; cases h
    · have hC : ¬ C = c.C := of_decide_eq_false hb
      unfold hear at h
      rw [if_neg hC] at h
      exact hear_said F m0 e0 hd rd k (fun c' h' => hm c' (List.mem_cons_of_mem _ h')) h
theorem stp_ext {H H1 : Hp} (e : LamX.ExtN H H1) (t : LamX.Tabs TabsW.T H1) : Stp NoA H H1 := ⟨fun a o h _ n => e a o h n, fun a ⟨o, h, n⟩ => ⟨o, e a o h n, n⟩, fun P q m _ => t (P, q) m⟩
section
variable {X : Cx} {G : Ctx} {W : WX}
theorem lam_takes {A : Around} {outer : List PySem.Env} {s : Shared} {H : Hp} {E : XK} {scope : Scope} {f c' : Addr} : Takes (LamX.lamCx X A outer s H E scope f c') (fun cls d _ H' => E cls d H') := takes_of rfl rfl rfl rfl
end
/-- the room of a lambda's body: nothing is known of the guards -/
theorem Room.plain {k : Nat} {A : Around} (h : L2.Room k A) : @Room ⟨False⟩ k A := @Room.mk ⟨False⟩ k A h (fun z => z.elim)
end Mp
set_option maxHeartbeats 4000000
theorem L2.Room.u100 {k : Nat} {A : PySem.Around} (h : L2.Room k A) : A.units + 100 < PySem.cLine := by have := h.un; omega
namespace Mp
open PySem PySem.Spec PyProof.Rows L2
variable [TabsW] [GdW]
section
variable {X : Cx} {G : Ctx} {W : WX}
theorem b_repr {k : Nat} {a : Expr} {i : IR} {p pos : Pos} (hgd : X.A.guards = some []) (hr : L2.Room k X.A) (hm : X.mg "repr" = none) (hg : Gl X "repr") (ha : PE X a (tI G W X.K i)) (h1 : starB a = false) : PE X (.Call (.Name "repr" p) [a] [] pos) (tI G W X.K (.blt .repr [i])) :=
  e_bltF (call_repr hgd) (s_repr hr) hg hm rfl (ar_cons ha ar_nil h1) (by simp [h1]) (by decide) rfl
theorem e_makeP {k j : Nat} {m : Mkr} {x : Str} {e : Expr} {es : List Expr} {is : List IR} {p pos : Pos} (F : @MkF _ ⟨False⟩ X.prog X.w X.K X.mg X.base k x m) (hj : G.mks[j]? = some m) (hr : L2.Room (k + 1) X.A) (tk : Takes X W) (hg : Gl X x) (ha : PA X (e :: es) (tIs G W X.K is)) (h1 : (e :: es).any starB = false) :
    PE X (.Call (.Name x p) (e :: es) [] pos) (tI G W X.K (.make j is)) := @e_make _ ⟨False⟩ X G W k j m x e es is p pos F hj (Room.plain hr) tk hg ha h1
end
section
variable {P : Program} {w : World} {K : PySem.W.Frag} {mg : Str → Option Value} {base : Heap} {G : Ctx}
/-- a def by its body, where its code object is known -/
theorem fn_bodyC {x qual : Str} {st : Stmt} {f c : Addr} {fd : FuncData} {N ps : List Str} {k : Nat} {io : Option Nat} {b : List ST} (F : Fun K x qual st f fd) (hc : fd.code = .ref c) (S : FnScope N ps (defScope st)) (hn : ps.length ≤ N.length)
    (hb : ∀ (A : Around) (outer : List PySem.Env) (s : Shared) (H : Hp) (E : XK), Room k (A.deeper (envOfC qual (defScope st) s.heap.objs.size f (.ref c))) →
      PSs (cxOf (L2.CX P w) P w K mg base N qual (defScope st) f (.ref c) A outer s H E) (defBody st) (tSs G (fun cls d _ H' => E cls d H') K b)) :
    FnOk P w K mg base (L2.CX P w) (k + 1) f fd ps (spF K ps.length io (semB G N.length io b)) := by
  obtain ⟨oc, od, kV, doc, pm, an, cdv, ct, osl, rfl, lk, hcd⟩ := F.ex
  have e : cdv = .ref c := hc
  subst e
  exact fn_text lk hcd S (fun vs H Q E h => h.1) fun A out s H vs Q E hr h => ⟨_, hb A out s H E hr, body_read hn h⟩
/-- where a def's lambdas are kept -/
structure LamT (base : Heap) (mg : Str → Option Value) (fd : FuncData) (q : Str) (c P : Addr) : Prop where
  code : fd.code = .ref c
  tb : LamX.TabB base mg c P
  mem : (P, q ++ "<lambda>") ∈ TabsW.T
  one : ∀ p ∈ TabsW.T, p.1 = P → p.2 = q ++ "<lambda>"
/-- the def that calls what it got -/
structure HrdF (K : PySem.W.Frag) (mg : Str → Option Value) (x : Str) (st : Stmt) (a : Str) (g : Addr) (cdv : Value) : Prop where
  mg : mg x = some (.ref g)
  kp : PySem.W.keepIn K (.ref g) = true
  ex : ∃ (dV kV doc pm ct oc : Value) (an od : Option Addr) (osl : Array (Option Value)), K.lookup g = some ⟨oc, od, .func (PySem.W.fnOf x x (defArgs st) (defBody st) (defScope st) dV kV doc pm an cdv ct), osl⟩ ∧ L2.Binds K (PySem.W.fnOf x x (defArgs st) (defBody st) (defScope st) dV kV doc pm an cdv ct) [a] []
  cd : PySem.W.codeIn K cdv x = true
end
end Mp
set_option maxHeartbeats 2000000
namespace Mp
open PySem L2
mutual
theorem eqD_self : ∀ (n : Nat) (d : D), dataD n d = true → eqD d d = true
  | _, .non, _ => by rw [eqD]
  | _, .bl b, _ => by rw [eqD]; simp
  | _, .int i, _ => by rw [eqD]; simp
  | _, .str s, _ => by rw [eqD]; simp
  | 0, .lst ds, h => by simp [dataD] at h
  | 0, .tup ds, h => by simp [dataD] at h
  | n + 1, .lst ds, h => by rw [dataD] at h; rw [eqD]; exact eqDs_self n ds h
  | n + 1, .tup ds, h => by rw [dataD] at h; rw [eqD]; exact eqDs_self n ds h
  | 0, .obj _ _ _, h => by simp [dataD] at h
  | 0, .raw _, h => by simp [dataD] at h
  | n + 1, .obj _ _ _, h => by simp [dataD] at h
  | n + 1, .raw _, h => by simp [dataD] at h
  | 0, .dct, h => by simp [dataD] at h
  | n + 1, .dct, h => by simp [dataD] at h
  | 0, .fn _, h => by simp [dataD] at h
  | n + 1, .fn _, h => by simp [dataD] at h
theorem eqDs_self : ∀ (n : Nat) (ds : List D), dataDs n ds = true → eqDs ds ds = true
  | _, [], _ => by rw [eqDs]
  | n, d :: ds, h => by
    rw [dataDs, Bool.and_eq_true] at h
    rw [eqDs, eqD_self n d h.1, eqDs_self n ds h.2]; rfl
end
theorem cmp_nself {d : D} (h : dataD 20 d = true) : cmpD .ne d d = some false := by
  show (if dataD 20 d && dataD 20 d then some (!eqD d d) else none) = _
  rw [h, eqD_self 20 d h]; rfl
theorem dataDs_all {n : Nat} : ∀ {ds : List D}, (∀ d, d ∈ ds → dataD n d = true) → dataDs n ds = true
  | [], _ => by rw [dataDs]
  | d :: ds, h => by
    rw [dataDs, h d List.mem_cons_self, dataDs_all fun e he => h e (List.mem_cons_of_mem _ he)]; rfl
theorem dataD_lst {n : Nat} {ds : List D} (h : ∀ d, d ∈ ds → dataD n d = true) : dataD (n + 1) (.lst ds) = true := by rw [dataD]; exact dataDs_all h
theorem dataD_tup {n : Nat} {ds : List D} (h : ∀ d, d ∈ ds → dataD n d = true) : dataD (n + 1) (.tup ds) = true := by rw [dataD]; exact dataDs_all h
theorem dataD_int {n : Nat} {i : Int} : dataD n (.int i) = true := by cases n <;> rw [dataD]
section
variable [TabsW] [GdW]
theorem iota_map' (lo : Nat) : ∀ n, iotaD lo n = (List.range' lo n).map fun k : Nat => D.int (k : Int)
  | 0 => rfl
  | n + 1 => by
    rw [iotaD, List.range'_succ, List.map_cons, ← iota_map' (lo + 1) n]
    rfl
theorem lcLoop_map {α : Type} {env0 : Env} {i : Nat} {T : Option (Env → R Bool)} {E : Env → R D} {f g : α → D} {p : α → Bool} (hi : i < env0.length) : ∀ (l : List α) (env : Env), env.set i none = env0.set i none →
    (∀ a, a ∈ l → tstR T (env0.set i (some (.dat (f a)))) = .ok (p a) (env0.set i (some (.dat (f a))))) →
    (∀ a, a ∈ l → p a = true → E (env0.set i (some (.dat (f a)))) = .ok (g a) (env0.set i (some (.dat (f a))))) →
    ∃ env', lcLoop [i] (.name i) T E (l.map f) env = .ok ((l.filter p).map g) env' ∧ env'.set i none = env0.set i none
  | [], env, h, _, _ => ⟨env, rfl, h⟩
  | a :: l, env, h, hT, hE => by
    have hb : bindT (.name i) (f a) (wipeE env [i]) = some (env0.set i (some (.dat (f a)))) := by
      show (if freeB (env.set i none) i = true then some ((env.set i none).set i (some (Cell.dat (f a)))) else none) = _
      rw [h, if_pos (free_wipe hi), List.set_set]
    have t := hT a List.mem_cons_self
    obtain ⟨env', e1, e2⟩ := lcLoop_map hi l (env0.set i (some (.dat (f a)))) (by rw [List.set_set]) (fun d hd => hT d (List.mem_cons_of_mem _ hd)) (fun d hd => hE d (List.mem_cons_of_mem _ hd))
    rw [List.map_cons, lcLoop_cons hb, t]
    refine ⟨env', ?_, e2⟩
    cases hp : p a with
    | false =>
      rw [List.filter_cons_of_neg (by rw [hp]; decide)]
      exact e1
    | true =>
      rw [List.filter_cons_of_pos hp, List.map_cons]
      show ((E (env0.set i (some (.dat (f a))))).bind fun x env3 => (lcLoop [i] (.name i) T E (l.map f) env3).bind fun xs env4 => R.ok (x :: xs) env4) = _
      rw [hE a List.mem_cons_self hp]
      show ((lcLoop [i] (.name i) T E (l.map f) (env0.set i (some (.dat (f a))))).bind fun xs env4 => R.ok (g a :: xs) env4) = _
      rw [e1]; rfl
variable {G : Ctx}
theorem lc_go {tg : Tgt} {it : IT} {t : Option IR} {e : IR} {own : List Nat} {env env0 env' : Env} {ds xs : List D} (hit : evi G it env = .ok ds env0) (hl : ds.length ≤ BIG) (hh : own.all (hideB env0) = true) (ho : (tgOwn tg).all (fun j => own.contains j) = true)
    (h : lcLoop own tg (tsF G t) (fun x => (ev G e x).take) ds env0 = .ok xs env') : ev G (.lc tg it t e own) env = .ok (.val (.lst xs)) (backE env0 env' own) := by
  rw [ev_lc, hit]
  show (if ds.length ≤ BIG ∧ own.all (hideB env0) = true ∧ (tgOwn tg).all (fun j => own.contains j) = true then _ else _) = _
  rw [if_pos ⟨hl, hh, ho⟩, h]
  rfl
/-- [e for x in it if t], it being a list made of l by f -/
theorem ev_lc_filt {α : Type} {i : Nat} {it : IT} {t e : IR} {env env0 : Env} {l : List α} {f g : α → D} (p : α → Bool) (hit : evi G it env = .ok (l.map f) env0) (hl : l.length ≤ BIG) (hh : hideB env0 i = true) (hi : i < env0.length)
    (hT : ∀ a, a ∈ l → truR (ev G t (env0.set i (some (.dat (f a))))) = .ok (p a) (env0.set i (some (.dat (f a)))))
    (hE : ∀ a, a ∈ l → p a = true → (ev G e (env0.set i (some (.dat (f a))))).take = .ok (g a) (env0.set i (some (.dat (f a))))) :
    ev G (.lc (.name i) it (some t) e [i]) env = .ok (.val (.lst ((l.filter p).map g))) env0 := by
  obtain ⟨env', e1, e2⟩ := lcLoop_map (T := tsF G (some t)) (E := fun x => (ev G e x).take) (f := f) (g := g) (p := p) hi l env0 rfl hT hE
  rw [lc_go hit (by simpa using hl) (by simp [hh]) (by simp [tgOwn]) e1, back_same e2]
end
end Mp
set_option maxHeartbeats 4000000
namespace Mp
open PySem L2
variable [TabsW]
def rInT (K : PySem.W.Frag) (neg : Bool) : R2 := fun x y H Q => ∃ d ds, Dp K H x d ∧ Dp K H y (.tuple ds) ∧ SeqAt.shaped d = true ∧ SeqAt.shaped (.tuple ds) = true ∧ Q (.bl (neg ^^ ds.any fun z => PyData.eqv z d)) H
section
variable {X : Cx}
theorem op_inT (hu : X.A.units + 65 < cLine) : OpR X (compareOp .In) (rInT X.K false) := by
  intro pins s σ H x y v u Q I rx ry h
  obtain ⟨d, ds, hd, he, sd, se, q⟩ := h
  obtain ⟨as, r1⟩ := Dp.reads I d x v hd rx
  obtain ⟨bs, r2⟩ := Dp.reads I (.tuple ds) y u he ry
  rw [Bool.false_xor] at q
  have a1 := SeqAt.depth_of_shaped sd
  exact SeqAt.in_tuple_reads r2 r1 (SeqAt.canLay_of_shaped se) (SeqAt.canLay_of_shaped sd) (by omega) ⟨.bl _, H, I, rfl, q⟩
theorem op_notInT (hu : X.A.units + 65 < cLine) : OpR X (compareOp .NotIn) (rInT X.K true) := by
  intro pins s σ H x y v u Q I rx ry h
  obtain ⟨d, ds, hd, he, sd, se, q⟩ := h
  obtain ⟨as, r1⟩ := Dp.reads I d x v hd rx
  obtain ⟨bs, r2⟩ := Dp.reads I (.tuple ds) y u he ry
  rw [Bool.true_xor] at q
  have a1 := SeqAt.depth_of_shaped sd
  exact SeqAt.notIn_tuple_reads r2 r1 (SeqAt.canLay_of_shaped se) (SeqAt.canLay_of_shaped sd) (by omega) ⟨.bl _, H, I, rfl, q⟩
end
def rSIn : R2 := fun x y H Q => ∃ i j, x = .str i ∧ y = .str j ∧ Q (.bl (!(Builtin.Str.occurrences j i 0 j.length 1).isEmpty)) H
def rSNin : R2 := fun x y H Q => ∃ i j, x = .str i ∧ y = .str j ∧ Q (.bl (!(!(Builtin.Str.occurrences j i 0 j.length 1).isEmpty))) H
theorem any_py (p : D) (a : PyData) (ea : toPy p = some a) : ∀ (ys : List D) (ps : List PyData), toPys ys = some ps → (ps.any fun z => PyData.eqv z a) = ys.any fun y => eqD y p
  | [], ps, h => by unfold toPys at h; cases h; rfl
  | y :: ys, ps, h => by
    unfold toPys at h
    cases e1 : toPy y with
    | none => rw [e1] at h; cases h
    | some b =>
      cases e2 : toPys ys with
      | none => rw [e1, e2] at h; cases h
      | some bs =>
        rw [e1, e2] at h; cases h
        rw [List.any_cons, List.any_cons, eqD_py y p b a e1 ea, any_py p a ea ys bs e2]
section
variable {K : PySem.W.Frag}
theorem datas_shaped {n : Nat} {ys : List D} (h : dataDs n ys = true) (hn : n < 64) : ∃ ps, toPys ys = some ps ∧ SeqAt.shaped (.list ps) = true ∧ SeqAt.shaped (.tuple ps) = true := by
  obtain ⟨ps, e, c, z⟩ := datas_py n ys h
  refine ⟨ps, e, ?_, ?_⟩
  · unfold SeqAt.shaped
    have c' : (PyData.list ps).canLay0 = true := c
    have z' : (PyData.list ps).depth ≤ 64 := by show PyData.depthAll ps + 1 ≤ 64; omega
    rw [c', decide_eq_true z']; rfl
  · unfold SeqAt.shaped
    have c' : (PyData.tuple ps).canLay0 = true := c
    have z' : (PyData.tuple ps).depth ≤ 64 := by show PyData.depthAll ps + 1 ≤ 64; omega
    rw [c', decide_eq_true z']; rfl
theorem s_in : CmS K (rOr rSIn (rOr (rInD K) (rInT K false))) .in_ := by
  intro M x y H p q z Q rp rq hM e k
  cases q with
  | str j =>
    cases p with
    | str i =>
      cases e
      exact .inl ⟨i, j, rp.str, rq.str, k _ _ Stp.refl (rep_bl _)⟩
    | _ => cases e
  | lst ys =>
    have e' : (if dataD 19 p && dataDs 19 ys then some (ys.any fun y => eqD y p) else none).map D.bl = some z := by cases p <;> exact e
    split at e'
    · rename_i hd
      cases e'
      rw [Bool.and_eq_true] at hd
      obtain ⟨a, ea, sa⟩ := shaped_of hd.1 (by decide)
      obtain ⟨b, eb, sb, _⟩ := datas_shaped hd.2 (by decide)
      refine .inr (.inl ⟨a, b, dp_of p x a rp.loose ea, dp_of (.lst ys) y _ rq.loose (by unfold toPy; rw [eb]; rfl), sa, sb, ?_⟩)
      rw [any_py p a ea ys b eb]
      exact k _ _ Stp.refl (rep_bl _)
    · cases e'
  | tup ys =>
    have e' : (if dataD 19 p && dataDs 19 ys then some (ys.any fun y => eqD y p) else none).map D.bl = some z := by cases p <;> exact e
    split at e'
    · rename_i hd
      cases e'
      rw [Bool.and_eq_true] at hd
      obtain ⟨a, ea, sa⟩ := shaped_of hd.1 (by decide)
      obtain ⟨b, eb, _, sb⟩ := datas_shaped hd.2 (by decide)
      refine .inr (.inr ⟨a, b, dp_of p x a rp.loose ea, dp_of (.tup ys) y _ rq.loose (by unfold toPy; rw [eb]; rfl), sa, sb, ?_⟩)
      rw [Bool.false_xor, any_py p a ea ys b eb]
      exact k _ _ Stp.refl (rep_bl _)
    · cases e'
  | _ => cases p <;> cases e
theorem s_notin : CmS K (rOr rSNin (rOr (rNotInD K) (rInT K true))) .notin := by
  intro M x y H p q z Q rp rq hM e k
  cases q with
  | str j =>
    cases p with
    | str i =>
      cases e
      exact .inl ⟨i, j, rp.str, rq.str, k _ _ Stp.refl (rep_bl _)⟩
    | _ => cases e
  | lst ys =>
    have e' : (if dataD 19 p && dataDs 19 ys then some (!ys.any fun y => eqD y p) else none).map D.bl = some z := by cases p <;> exact e
    split at e'
    · rename_i hd
      cases e'
      rw [Bool.and_eq_true] at hd
      obtain ⟨a, ea, sa⟩ := shaped_of hd.1 (by decide)
      obtain ⟨b, eb, sb, _⟩ := datas_shaped hd.2 (by decide)
      refine .inr (.inl ⟨a, b, dp_of p x a rp.loose ea, dp_of (.lst ys) y _ rq.loose (by unfold toPy; rw [eb]; rfl), sa, sb, ?_⟩)
      rw [any_py p a ea ys b eb]
      exact k _ _ Stp.refl (rep_bl _)
    · cases e'
  | tup ys =>
    have e' : (if dataD 19 p && dataDs 19 ys then some (!ys.any fun y => eqD y p) else none).map D.bl = some z := by cases p <;> exact e
    split at e'
    · rename_i hd
      cases e'
      rw [Bool.and_eq_true] at hd
      obtain ⟨a, ea, sa⟩ := shaped_of hd.1 (by decide)
      obtain ⟨b, eb, _, sb⟩ := datas_shaped hd.2 (by decide)
      refine .inr (.inr ⟨a, b, dp_of p x a rp.loose ea, dp_of (.tup ys) y _ rq.loose (by unfold toPy; rw [eb]; rfl), sa, sb, ?_⟩)
      rw [Bool.true_xor, any_py p a ea ys b eb]
      exact k _ _ Stp.refl (rep_bl _)
    · cases e'
  | _ => cases p <;> cases e
end
/-- no set display stands behind in -/
def setB : Expr → Bool
  | .Set _ _ _ => true
  | _ => false
theorem nomark_in {op : CmpOp} {b : Expr} (h : setB b = false) : behindInMarks op b = false := by cases b <;> first | rfl | cases h
section
variable {X : Cx} {G : Ctx} {W : WX} {a b : Expr} {a' b' : IR} {pos : Pos}
theorem hu65 [GdW] {A : Around} {k : Nat} (hr : Room k A) : A.units + 65 < cLine := by have := hr.r.un; omega
theorem o_in (hu : X.A.units + 65 < cLine) : OpR X (compareOp .In) (rOr rSIn (rOr (rInD X.K) (rInT X.K false))) := OpR.or op_in_str (OpR.or (op_inD hu) (op_inT hu))
theorem o_notin (hu : X.A.units + 65 < cLine) : OpR X (compareOp .NotIn) (rOr rSNin (rOr (rNotInD X.K) (rInT X.K true))) := OpR.or op_notin_str (OpR.or (op_notInD hu) (op_notInT hu))
theorem x_in (hu : X.A.units + 65 < cLine) (ha : PE X a (tI G W X.K a')) (hb : PE X b (tI G W X.K b')) (hs : setB b = false) : PE X (.Compare a [.In] [b] pos) (tI G W X.K (.cmp .in_ a' b')) := e_cmp (o_in hu) s_in ha hb (nomark_in hs)
theorem y_in (hu : X.A.units + 65 < cLine) (ha : PE X a (tI G W X.K a')) (hb : PE X b (tI G W X.K b')) (hs : setB b = false) : PT X (.Compare a [.In] [b] pos) (tIt G W X.K (.cmp .in_ a' b')) := t_cmp (o_in hu) s_in ha hb (nomark_in hs)
theorem y_notin (hu : X.A.units + 65 < cLine) (ha : PE X a (tI G W X.K a')) (hb : PE X b (tI G W X.K b')) (hs : setB b = false) : PT X (.Compare a [.NotIn] [b] pos) (tIt G W X.K (.cmp .notin a' b')) := t_cmp (o_notin hu) s_notin ha hb (nomark_in hs)
end
def tIsS (G : Ctx) (W : WX) (K : PySem.W.Frag) (fs : List Bool) (is : List IR) : TA := fun σ H Q => ∃ H0 M0 A env, EnvR K H0 M0 A env σ H ∧ Sat K H0 M0 A W (evs G is env) env σ H fun ds e1 H1 => ∃ es, starD fs ds = some es ∧ ∀ vs, RepL K H1 (MM M0 e1 σ) es vs → Q vs H1
section
variable {X : Cx} {G : Ctx} {W : WX}
theorem ass_nil : PA X [] (tIsS G W X.K [] []) := PA.by_ pa_nil fun σ H Q q => by
  obtain ⟨H0, M0, A, env, E, q⟩ := q
  rw [evs] at q
  obtain ⟨es, h1, h2⟩ := q H Stp.refl Sub.refl E
  cases h1
  exact h2 [] RepL.nil
theorem ass_cons {e : Expr} {es : List Expr} {i : IR} {fs : List Bool} {is : List IR} (ha : PE X e (tI G W X.K i)) (hr : PA X es (tIsS G W X.K fs is)) (hs : starB e = false) : PA X (e :: es) (tIsS G W X.K (false :: fs) (i :: is)) := PA.by_ (pa_cons ha hr (star_cons hs)) fun σ H Q q => by
  obtain ⟨H0, M0, A, env, E, q⟩ := q
  rw [evs] at q
  unfold R.take at q
  rw [R.bind_assoc] at q
  refine ⟨H0, M0, A, env, E, (Sat.bind q).mono fun o e1 H1 _ s1 u1 E1 h1 x hx => ?_⟩
  cases e : takeO e1 o with
  | none => rw [e] at h1; exact h1.elim
  | some p =>
    obtain ⟨d, e2⟩ := p
    rw [e] at h1
    obtain ⟨E2, rd, u2⟩ := E1.take hx e
    have h2 : Sat X.K H0 M0 A W ((evs G is e2).bind fun ds e3 => .ok (d :: ds) e3) e1 σ H1 (fun ds e1 H1 => ∃ es, starD (false :: fs) ds = some es ∧ ∀ vs, RepL X.K H1 (MM M0 e1 σ) es vs → Q vs H1) := h1
    have h3 := h2.sub u2
    refine ⟨H0, M0, A, e2, E2, (Sat.bind h3).mono fun ds e3 H3 _ s3 u3 E3 h4 => ?_⟩
    obtain ⟨es', g1, g2⟩ := h4 H3 Stp.refl Sub.refl E3
    have g1' : (starD fs ds).map (d :: ·) = some es' := g1
    cases g : starD fs ds with
    | none => rw [g] at g1'; cases g1'
    | some es2 =>
      rw [g] at g1'; cases g1'
      exact ⟨es2, rfl, fun vs hv => g2 (x :: vs) (RepL.cons (hold rd E2.aM s3 u3) hv)⟩
theorem ass_star {e : Expr} {es : List Expr} {i : IR} {fs : List Bool} {is : List IR} {p : Pos} (ha : PE X e (tI G W X.K i)) (hr : PA X es (tIsS G W X.K fs is)) : PA X (.Starred e p :: es) (tIsS G W X.K (true :: fs) (.sq i :: is)) := PA.by_ (StX.pa_star ha hr) fun σ H Q q => by
  obtain ⟨H0, M0, A, env, E, q⟩ := q
  rw [evs] at q
  unfold R.take at q
  rw [R.bind_assoc, ev, R.bind_assoc] at q
  refine ⟨H0, M0, A, env, E, (Sat.bind q).mono fun o e1 H1 _ s1 u1 E1 h1 x hx => ?_⟩
  have step : ∀ (ks : List D) (d0 : D), rdO e1 o = some d0 → (d0 = .lst ks ∨ d0 = .tup ks) → ∃ p xs, x = V.ref p ∧ (SqT X.K H1 p xs ∨ SqL X.K H1 p xs) ∧ tIsS G W X.K fs is σ H1 fun ys H2 => Q (xs ++ ys) H2 := by
    intro ks d0 hd0 hk
    have hk' : (match rdO e1 o with | some (.lst _) => R.ok o e1 | some (.tup _) => R.ok o e1 | _ => R.bad) = R.ok o e1 := by
      rw [hd0]; rcases hk with rfl | rfl <;> rfl
    have h1' : Sat X.K H0 M0 A W ((R.ok o e1 : R Opd).bind fun o env => (match takeO env o with | some (d, env') => R.ok d env' | none => R.bad).bind fun d e1 => (evs G is e1).bind fun ds e2 => R.ok (d :: ds) e2) e1 σ H1 (fun ds e1 H1 => ∃ es, starD (true :: fs) ds = some es ∧ ∀ vs, RepL X.K H1 (MM M0 e1 σ) es vs → Q vs H1) := by
      rw [← hk']; exact h1
    have h1 : Sat X.K H0 M0 A W ((match takeO e1 o with | some (d, env') => R.ok d env' | none => R.bad).bind fun d e1 => (evs G is e1).bind fun ds e2 => R.ok (d :: ds) e2) e1 σ H1 (fun ds e1 H1 => ∃ es, starD (true :: fs) ds = some es ∧ ∀ vs, RepL X.K H1 (MM M0 e1 σ) es vs → Q vs H1) := h1'
    cases e : takeO e1 o with
    | none => rw [e] at h1; exact h1.elim
    | some p =>
      obtain ⟨d, e2⟩ := p
      rw [e] at h1
      obtain ⟨E2, rd, u2⟩ := E1.take hx e
      have ed : d = d0 := by
        cases o with
        | val d' => cases e; cases hd0; rfl
        | pl j =>
          have hd1 : (cellAt e1 j).map content = some d0 := hd0
          have e' : (match cellAt e1 j with | some (.own ds) => some (D.lst ds, e1.set j (some (.dat (.lst ds)))) | some (.dat d) => some (d, e1) | _ => none) = some (d, e2) := e
          cases hc : cellAt e1 j with
          | none => rw [hc] at e'; cases e'
          | some c =>
            rw [hc] at e' hd1
            cases c with
            | own ds => cases e'; cases hd1; rfl
            | dat d' => cases e'; cases hd1; rfl
            | io ds => cases e'
            | slf a b c => cases e'
      subst ed
      have h2 : Sat X.K H0 M0 A W ((evs G is e2).bind fun ds e3 => .ok (d :: ds) e3) e1 σ H1 (fun ds e1 H1 => ∃ es, starD (true :: fs) ds = some es ∧ ∀ vs, RepL X.K H1 (MM M0 e1 σ) es vs → Q vs H1) := h1
      have h3 := h2.sub u2
      have fin : ∀ (a : Addr) (xs : List V), RepL X.K H1 (MM M0 e2 σ) ks xs → tIsS G W X.K fs is σ H1 fun ys H2 => Q (xs ++ ys) H2 := by
        intro a xs rl
        refine ⟨H0, M0, A, e2, E2, (Sat.bind h3).mono fun ds e3 H3 _ s3 u3 E3 h4 => ?_⟩
        obtain ⟨es', g1, g2⟩ := h4 H3 Stp.refl Sub.refl E3
        have g1' : (starD fs ds).map (ks ++ ·) = some es' := by rcases hk with rfl | rfl <;> exact g1
        cases g : starD fs ds with
        | none => rw [g] at g1'; cases g1'
        | some es2 =>
          rw [g] at g1'; cases g1'
          exact ⟨es2, rfl, fun vs hv => g2 (xs ++ vs) (RepL.append (holdL rl E2.aM s3 u3) hv)⟩
      rcases hk with rfl | rfl
      · unfold Rep at rd
        obtain ⟨a, xs, rfl, h, rl⟩ := rd
        exact ⟨a, xs, rfl, .inr h.l, fin a xs rl⟩
      · unfold Rep at rd
        obtain ⟨a, xs, rfl, _, h, rl⟩ := rd
        exact ⟨a, xs, rfl, .inl (Rd.t h), fin a xs rl⟩
  cases hd : rdO e1 o with
  | none => exact absurd h1 (by rw [hd]; exact fun z => z)
  | some d0 =>
    cases d0 with
    | lst ks => exact step ks _ hd (.inl rfl)
    | tup ks => exact step ks _ hd (.inr rfl)
    | _ => exact absurd h1 (by rw [hd]; exact fun z => z)
theorem e_lstS {es : List Expr} {fs : List Bool} {is : List IR} {pos : Pos} (h : PA X es (tIsS G W X.K fs is)) : PE X (.List es pos) (tI G W X.K (.lstS fs is)) := PE.by_ (pe_lst h) fun σ H Q q => by
  obtain ⟨H0, M0, A, env, E, q⟩ := q
  rw [ev] at q
  refine ⟨H0, M0, A, env, E, (Sat.bind q).mono fun ds e1 H1 _ s1 u1 E1 h1 => ?_⟩
  have hs : sizeLine = 16777216 := sizeLine_eq
  cases g : starD fs ds with
  | none => rw [g] at h1; exact h1.elim
  | some es' =>
    rw [g] at h1
    refine ⟨es', rfl, fun xs hx => ?_⟩
    dsimp only at h1
    by_cases hl : es'.length ≤ BIG
    · rw [if_pos hl] at h1
      refine ⟨by rw [← hx.length]; unfold BIG at hl; omega, fun p hp => ?_⟩
      exact h1 _ (Stp.new hp) Sub.refl (E1.new hp) _ (rep_new hp (E1.fresh hp).1 hx)
    · rw [if_neg hl] at h1; exact h1.elim
end
theorem evq_lstS {G : Ctx} {fs : List Bool} {es : List IR} {env : Env} : ev G (.lstS fs es) env = ((evs G es env).bind fun ds e1 => match starD fs ds with
    | some xs => if xs.length ≤ BIG then .ok (.val (.lst xs)) e1 else .bad
    | none => .bad) := by first | (rw [ev]; done) | (rw [ev]; rfl)
end Mp
set_option maxHeartbeats 8000000
namespace Mp
open PySem PySem.Spec PyProof PyProof.Rows L2
/-- a set of the ints ns -/
def rSetL (K : PySem.W.Frag) (w : World) : List V → Hp → VK → Prop := fun xs H Q => ∃ (l : Addr) (ns : List Int), xs = [V.ref l] ∧ SqL K H l (ns.map V.int) ∧ ns.length ≤ 4000 ∧ ∀ a c, H a = none → c ≤ ns.length → Q (.ref a) (upd H a (SetO w a (fun j => decide (j ∈ ns)) c))
variable [TabsW]
end Mp
set_option maxHeartbeats 4000000
set_option maxHeartbeats 4000000
namespace Mp
open PySem L2
variable [TabsW] [GdW]
section
variable {K : PySem.W.Frag} {H0 H H' H1 : Hp} {M0 A : AS} {e1 : Env} {σ : L2.St} {own : List Nat} {Dl : Addr}
/-- the state while such a loop goes: what is made so far stands at Dl -/
structure LA (K : PySem.W.Frag) (H0 H1 : Hp) (M0 A : AS) (e1 : Env) (σ : L2.St) (own : List Nat) (Dl : Addr) (n : Nat) (env : Env) (τ : L2.St) (acc : List D) (H : Hp) : Prop where
  ex : ∃ ys : List V, H Dl = some (.lst ys) ∧ ys.length ≤ n ∧ RepL K H (MM (fun a => M0 a ∨ a = Dl) env τ) acc ys
  E : EnvR K H0 (fun a => M0 a ∨ a = Dl) A env τ H
  st : Stp (WW A e1 σ) H1 H
  mu : ∀ a, MutAt env τ a → MutAt e1 σ a
  th : ∀ (j : Nat) (c : Cell), j ∉ own → e1[j]? = some (some c) → ∃ c', env[j]? = some (some c')
  io : ∀ (j : Nat) (ds : List D), j ∉ own → env[j]? = some (some (Cell.io ds)) → ∃ es, e1[j]? = some (some (Cell.io es))
  len : env.length = e1.length
  nA : ¬ A Dl
  n0 : ¬ Lv H0 Dl
  nD : H1 Dl = none
theorem LA.nW {n : Nat} {env : Env} {τ : L2.St} {acc : List D} (L : LA K H0 H1 M0 A e1 σ own Dl n env τ acc H) : ¬ WW A env τ Dl := fun z => by
  rcases z with z | ⟨j, es, z1, z2⟩
  · exact L.nA z
  · obtain ⟨b, zs, b1, _, _, b4, _⟩ := L.E.own j es z1
    rw [z2] at b1; cases b1
    exact b4 (.inr rfl)
/-- something has been reckoned -/
theorem LA.step {n : Nat} {env env' : Env} {τ : L2.St} {acc : List D} (L : LA K H0 H1 M0 A e1 σ own Dl n env τ acc H) (s : Stp (WW A env τ) H H') (u : Sub τ env env') (E' : EnvR K H0 (fun a => M0 a ∨ a = Dl) A env' τ H') : LA K H0 H1 M0 A e1 σ own Dl n env' τ acc H' := by
  obtain ⟨ys, h1, h2, h3⟩ := L.ex
  refine ⟨⟨ys, s.st Dl _ h1 L.nW nt_lst, h2, holdL h3 L.E.aM s u⟩, E', L.st.trans (s.weak fun a z => z.elim .inl fun q => .inr (L.mu a q)), fun a z => L.mu a (u.own a z), fun j c hj h => ?_, fun j ds hj h => ?_, by rw [u.len, L.len], L.nA, L.n0, L.nD⟩
  · obtain ⟨c1, q⟩ := L.th j c hj h
    exact u.there j c1 q
  · obtain ⟨es, q⟩ := u.io j ds h
    exact L.io j es hj q
/-- more turns may go -/
theorem LA.more {n m : Nat} {env : Env} {τ : L2.St} {acc : List D} (L : LA K H0 H1 M0 A e1 σ own Dl n env τ acc H) (h : n ≤ m) : LA K H0 H1 M0 A e1 σ own Dl m env τ acc H := by
  obtain ⟨ys, h1, h2, h3⟩ := L.ex
  exact ⟨⟨ys, h1, Nat.le_trans h2 h, h3⟩, L.E, L.st, L.mu, L.th, L.io, L.len, L.nA, L.n0, L.nD⟩
/-- slots of its own are hidden -/
theorem LA.wipe {n : Nat} {env : Env} {τ : L2.St} {acc : List D} (L : LA K H0 H1 M0 A e1 σ own Dl n env τ acc H) (is : List Nat) (hi : ∀ j, j ∈ is → j ∈ own) : LA K H0 H1 M0 A e1 σ own Dl n (wipeE env is) (L2.wipe τ is) acc H := by
  obtain ⟨ys, h1, h2, h3⟩ := L.ex
  obtain ⟨E2, m2⟩ := L.E.wipe is
  refine ⟨⟨ys, h1, h2, RepL.stp Stp.refl (fun a z => z.elim .inl fun q => .inr (m2 a q)) acc ys h3⟩, E2, L.st, fun a z => L.mu a (m2 a z), fun j c hj h => ?_, fun j ds hj h => ?_, by rw [wipeE_len, L.len], L.nA, L.n0, L.nD⟩
  · rw [wipeE_out fun z => hj (hi j z)]; exact L.th j c hj h
  · rw [wipeE_out fun z => hj (hi j z)] at h; exact L.io j ds hj h
/-- a target is set -/
theorem LA.bind {n : Nat} {env env1 : Env} {τ τ' : L2.St} {acc : List D} {tg : Tgt} {d : D} (L : LA K H0 H1 M0 A e1 σ own Dl n env τ acc H) (hb : bindT tg d env = some env1) (ho : ∀ j, j ∈ tgOwn tg → j ∈ own)
    (E' : EnvR K H0 (fun a => M0 a ∨ a = Dl) A env1 τ' H) (u' : ∀ a, MutAt env1 τ' a → MutAt env τ a) : LA K H0 H1 M0 A e1 σ own Dl n env1 τ' acc H := by
  obtain ⟨ys, h1, h2, h3⟩ := L.ex
  obtain ⟨b1, b2⟩ := bind_out hb
  refine ⟨⟨ys, h1, h2, RepL.stp Stp.refl (fun a z => z.elim .inl fun q => .inr (u' a q)) acc ys h3⟩, E', L.st, fun a z => L.mu a (u' a z), fun j c hj h => ?_, fun j ds hj h => ?_, by rw [b2, L.len], L.nA, L.n0, L.nD⟩
  · rw [b1 j fun z => hj (ho j z)]; exact L.th j c hj h
  · rw [b1 j fun z => hj (ho j z)] at h; exact L.io j ds hj h
/-- one more -/
theorem LA.push {n : Nat} {env : Env} {τ : L2.St} {acc : List D} {d : D} {y : V} (L : LA K H0 H1 M0 A e1 σ own Dl n env τ acc H) (r : Rep K H (MM (fun a => M0 a ∨ a = Dl) env τ) d y) :
    ∃ ys, H Dl = some (.lst ys) ∧ ys.length ≤ n ∧ LA K H0 H1 M0 A e1 σ own Dl (n + 1) env τ (acc ++ [d]) (upd H Dl (.lst (ys ++ [y]))) := by
  obtain ⟨ys, h1, h2, h3⟩ := L.ex
  have st : Stp (MM (fun a => M0 a ∨ a = Dl) env τ) H (upd H Dl (.lst (ys ++ [y]))) := Stp.set (.inl (.inr rfl)) (pl_at h1)
  refine ⟨ys, h1, h2, ⟨⟨ys ++ [y], upd_same, by rw [List.length_append, List.length_singleton]; omega, RepL.append (RepL.stp st (fun _ z => z) acc ys h3) (RepL.cons (Rep.stp st (fun _ z => z) d y r) RepL.nil)⟩,
    L.E.setM (pl_at h1) (.inr rfl) L.nA L.n0, ⟨fun a o h k t => ?_, fun a h => mo_upd nt_lst a (L.st.mo a h), fun P q m h => tab_upd (pl_at h1) P q (L.st.tb P q m h)⟩, L.mu, L.th, L.io, L.len, L.nA, L.n0, L.nD⟩⟩
  rw [upd_ne (ne_of_none h L.nD)]
  exact L.st.st a o h k t
end
end Mp
set_option maxHeartbeats 4000000
namespace Mp
open PySem L2 PyProof.Rows
variable [TabsW] [GdW]
section
variable {X : Cx} {G : Ctx} {W : WX}
theorem e_dnew {pos : Pos} : PE X (.Dict [] [] pos) (tI G W X.K .dnew) := PE.by_ pe_dnewK fun σ H Q q => by
  obtain ⟨H0, M0, A, env, E, q⟩ := q
  rw [ev] at q
  exact fun p hp => q _ (Stp.new hp) Sub.refl (E.new hp) (.ref p) (by unfold OpdR Rep; exact ⟨p, [], rfl, (E.fresh hp).1, upd_same⟩)
def tNil0 : TE := fun _ H Q => ∀ p, H p = none → Q (.ref p) (upd H p (.lst []))
theorem pe_nil0 {pos : Pos} : PE X (.List [] pos) tNil0 := PE.by_ (pe_lst pa_nil) fun σ H Q q => ⟨Nat.zero_le _, q⟩
theorem st_parl {s : Stmt} {i j : Nat} {m : LM} (h : PS X s (tPar i j (fun σ H Q => tIl G W X.K m σ H fun x H1 => tNil0 σ H1 fun y H2 => Q [x, y] H2))) : PS X s (tS G W X.K (.parl i m j)) := PS.by_ h fun D σ H q => by
  obtain ⟨H0, M0, A, env, E, q⟩ := q
  rw [evS] at q
  refine ⟨H0, M0, A, env, E, (SatS.toS q).mono fun ds e1 H1 _ s1 u1 E1 h1 => ?_⟩
  by_cases hc : ds.length ≤ BIG ∧ freeB e1 i = true ∧ freeB e1 j = true ∧ i ≠ j
  · rw [if_pos hc] at h1
    obtain ⟨hl, hi, hj, hne⟩ := hc
    refine ⟨hl, fun vs p H' s hp h' r => fun p2 hp2 => ⟨.ref p, .ref p2, rfl, ?_⟩⟩
    obtain ⟨E2, u2⟩ := E1.setNew hi hp s h' r
    obtain ⟨E3, u3⟩ := E2.setNew (i := j) (ds := []) (vs := []) (p := p2) (by rw [free_set hne]; exact hj) (nn_of hp2) (Stp.new hp2) upd_same RepL.nil
    exact h1 _ _ (s.trans (Stp.new hp2)).no (SubS.trans (A := A) s.no u2 u3) E3
  · rw [if_neg hc] at h1; exact h1.elim
end
end Mp
set_option maxHeartbeats 2000000
set_option maxHeartbeats 4000000
set_option maxHeartbeats 4000000
set_option maxHeartbeats 4000000
set_option maxHeartbeats 4000000
namespace Mp
open PySem
open L2 PyProof.Rows
variable [TabsW] [GdW]
theorem Sat.apart {α : Type} {K : PySem.W.Frag} {H0 H : Hp} {M0 M1 A : AS} {W : WX} {r : R α} {env : Env} {σ : L2.St} {P : α → Env → Hp → Prop} (hM : ∀ a, M0 a → M1 a) (hA : ∀ a, A a → M0 a) (q : Sat K H0 M0 A W r env σ H P) : Sat K H0 M1 A W r env σ H P := by
  cases r with
  | bad => exact q
  | ok o e' => exact fun H' s u E => q H' s u (E.less hM hA)
  | exc C f d e' => exact fun dd v H' s u E h r => q dd v H' s u (E.less hM hA) h (Rep.stp Stp.refl (fun a z => z.elim (fun w => .inl (hM a w)) .inr) d v r)
end Mp
namespace Mp
open PySem
open L2 PyProof.Rows
variable [TabsW] [GdW]
section
variable {X : Cx} {G : Ctx} {W : WX}
theorem SatS.from {α : Type} {K : PySem.W.Frag} {H0 H H1 : Hp} {M0 A : AS} {env e1 : Env} {σ : L2.St} {r : R α} {f : α → Env → SR} {D : Ends} (h : SatS K H0 M0 A W (r.toS f) env σ H D) (s : Stp (WW A env σ) H H1) (u : Sub σ env e1) : Sat K H0 M0 A W r e1 σ H1 fun a e2 _ => SatS K H0 M0 A W (f a e2) env σ H D := by
  cases r with
  | bad => exact h
  | exc C n d e' => exact fun dd v H' s' u' E' => h σ dd v H' (s.sTrans u.toS s') (u.trans u').toS E'
  | ok a e' => exact fun H' s' u' E' => h
end
end Mp
namespace Mp
open PySem
open L2 PyProof.Rows
variable [TabsW] [GdW]
section
variable {X : Cx} {G : Ctx} {W : WX}
theorem e_methP {k j : Nat} {m : Mt} {o e : Expr} {es : List Expr} {o' : IR} {is : List IR} {apos pos : Pos} {pl : Sem Bool} (F : @MtF _ ⟨False⟩ X.prog X.w X.K X.mg X.base k m) (hj : G.mts[j]? = some m) (hr : L2.Room k X.A) (tk : Takes X W) (ho : PE X o (tI G W X.K o')) (ha : PA X (e :: es) (tIs G W X.K is)) (h1 : (e :: es).any starB = false)
    (ht : eval (.Call (.Attribute o m.name apos) (e :: es) [] pos) X.env = (do
      let ov ← eval o X.env
      standAt apos.atName
      let (f, first) ← holding [ov] (getMethod ov m.name pl)
      callWith pos f first (backTo pos (starEach (e :: es) X.env)) (backToKw pos (keywordEach [] X.env)))) : PE X (.Call (.Attribute o m.name apos) (e :: es) [] pos) (tI G W X.K (.meth j o' is)) := @e_meth _ ⟨False⟩ X G W k j m o e es o' is apos pos pl F hj (Room.plain hr) tk ho ha h1 ht
end
end Mp
set_option maxHeartbeats 4000000
namespace Mp
open PySem L2
variable [TabsW] [GdW]
section
variable {G : Ctx}
theorem meth_ok2 {j : Nat} {o : IR} {es : List IR} {env env0 env1 : Env} {C : Str} {ns : List Str} {ds vs : List D} {d : D} {m : Mt} (hm : G.mts[j]? = some m) (ho : ev G o env = .ok (.val (.obj C ns ds)) env0) (hc : C = m.C ∧ es.length + 1 = m.n ∧ ns.contains m.name = false) (he : evs G es env0 = .ok vs env1) (hs : m.sem (.obj C ns ds :: vs) = .ok d []) : ev G (.meth j o es) env = .ok (.val d) env1 := by
  rw [evq_meth, hm, ho]
  show (if C = m.C ∧ es.length + 1 = m.n ∧ ns.contains m.name = false then (evs G es env0).bind fun vs e2 => frR e2 none [] (m.sem (.obj C ns ds :: vs)) else .bad) = _
  rw [if_pos hc, he]
  show frR env1 none [] (m.sem (.obj C ns ds :: vs)) = _
  rw [hs]; rfl
theorem meth_exc {j : Nat} {o : IR} {es : List IR} {env env0 env1 : Env} {C C' f : Str} {ns : List Str} {ds vs : List D} {d : D} {m : Mt} (hm : G.mts[j]? = some m) (ho : ev G o env = .ok (.val (.obj C ns ds)) env0) (hc : C = m.C ∧ es.length + 1 = m.n ∧ ns.contains m.name = false) (he : evs G es env0 = .ok vs env1) (hs : m.sem (.obj C ns ds :: vs) = .exc C' f d []) : ev G (.meth j o es) env = .exc C' f d env1 := by
  rw [evq_meth, hm, ho]
  show (if C = m.C ∧ es.length + 1 = m.n ∧ ns.contains m.name = false then (evs G es env0).bind fun vs e2 => frR e2 none [] (m.sem (.obj C ns ds :: vs)) else .bad) = _
  rw [if_pos hc, he]
  show frR env1 none [] (m.sem (.obj C ns ds :: vs)) = _
  rw [hs]; rfl
theorem make_ok {j : Nat} {es : List IR} {env env1 : Env} {m : Mkr} {vs out : List D} {d : D} (hm : G.mks[j]? = some m) (hn : es.length = m.n) (he : evs G es env = .ok vs env1) (hs : m.sem vs = .ok d out) : ev G (.make j es) env = .ok (.val (.obj m.C m.ns out)) env1 := by
  rw [evq_make, hm]
  dsimp only
  show (if es.length = m.n then (evs G es env).bind fun vs e1 => (match m.sem vs with
      | .ok _ out => R.ok (Opd.val (.obj m.C m.ns out)) e1
      | .exc C f d _ => .exc C f d e1
      | .bad => .bad) else .bad) = _
  rw [if_pos hn, he]
  show (match m.sem vs with
      | .ok _ out => R.ok (Opd.val (.obj m.C m.ns out)) env1
      | .exc C f d _ => .exc C f d env1
      | .bad => .bad) = _
  rw [hs]
theorem call_ok {j : Nat} {es : List IR} {env env1 : Env} {f : Fn} {ds out : List D} {d : D} (hc : ev G (.call j es) env = (evs G es env).bind fun ds e1 => runF e1 (f.sem ds)) (he : evs G es env = .ok ds env1) (hs : f.sem ds = .ok d out) : ev G (.call j es) env = .ok (.val d) env1 := by
  rw [hc, he]
  show runF env1 (f.sem ds) = _
  rw [hs]; rfl
theorem call_exc {j : Nat} {es : List IR} {env env1 : Env} {f : Fn} {ds out : List D} {C x : Str} {d : D} (hc : ev G (.call j es) env = (evs G es env).bind fun ds e1 => runF e1 (f.sem ds)) (he : evs G es env = .ok ds env1) (hs : f.sem ds = .exc C x d out) : ev G (.call j es) env = .exc C x d env1 := by
  rw [hc, he]
  show runF env1 (f.sem ds) = _
  rw [hs]; rfl
theorem evs0 {E : Env} : evs G [] E = .ok [] E := by rw [evs]
theorem evs_cons {a : IR} {as : List IR} {E E1 E2 : Env} {d : D} {ds : List D} (h : ev G a E = .ok (.val d) E1) (h2 : evs G as E1 = .ok ds E2) : evs G (a :: as) E = .ok (d :: ds) E2 := by
  rw [evs, h]
  show (evs G as E1).bind _ = _
  rw [h2]; rfl
theorem evs1 {a : IR} {E E1 : Env} {d : D} (h : ev G a E = .ok (.val d) E1) : evs G [a] E = .ok [d] E1 := evs_cons h evs0
theorem evs2 {a b : IR} {E E1 E2 : Env} {d c : D} (h : ev G a E = .ok (.val d) E1) (h2 : ev G b E1 = .ok (.val c) E2) : evs G [a, b] E = .ok [d, c] E2 := evs_cons h (evs1 h2)
theorem evs3 {a b c : IR} {E E1 E2 E3 : Env} {d e f : D} (h : ev G a E = .ok (.val d) E1) (h2 : ev G b E1 = .ok (.val e) E2) (h3 : ev G c E2 = .ok (.val f) E3) : evs G [a, b, c] E = .ok [d, e, f] E3 := evs_cons h (evs2 h2 h3)
theorem x_v {i : Nat} {E : Env} {d : D} (h : E[i]? = some (some (.dat d))) : ev G (.v i) E = .ok (.val d) E := by
  rw [evq_v]; unfold cellAt; rw [h]; rfl
theorem x_c {E : Env} {d : D} : ev G (.c d) E = .ok (.val d) E := evq_c
theorem x_bin {op : BOp} {a b : IR} {E E1 E2 : Env} {x y z : D} (h : ev G a E = .ok (.val x) E1) (h2 : ev G b E1 = .ok (.val y) E2) (h3 : binD op x y = some z) : ev G (.bin op a b) E = .ok (.val z) E2 := by
  rw [evq_bin, h]
  show ((ev G b E1).bind fun y e2 => match rdO e2 (.val x), rdO e2 y with
    | some p, some q => lift e2 (binD op p q)
    | _, _ => .bad) = _
  rw [h2]
  show lift E2 (binD op x y) = _
  rw [h3]; rfl
theorem x_cmp {op : COp} {a b : IR} {E E1 E2 : Env} {x y : D} {z : Bool} (h : ev G a E = .ok (.val x) E1) (h2 : ev G b E1 = .ok (.val y) E2) (h3 : cmpD op x y = some z) : ev G (.cmp op a b) E = .ok (.val (.bl z)) E2 := by
  rw [evq_cmp, h]
  show ((ev G b E1).bind fun y e2 => match rdO e2 (.val x), rdO e2 y with
    | some p, some q => lift e2 ((cmpD op p q).map .bl)
    | _, _ => .bad) = _
  rw [h2]
  show lift E2 ((cmpD op x y).map .bl) = _
  rw [h3]; rfl
theorem x_and_t {a b : IR} {E E1 : Env} {x : D} (h : ev G a E = .ok (.val x) E1) (ht : truD x = some true) : ev G (.and_ a b) E = ev G b E1 := by
  rw [evq_and_, h]
  show (match (rdO E1 (.val x)).bind truD with
    | some true => ev G b E1
    | some false => R.ok (Opd.val x) E1
    | none => R.bad) = _
  rw [show (rdO E1 (.val x)).bind truD = some true from ht]
theorem x_and_f {a b : IR} {E E1 : Env} {x : D} (h : ev G a E = .ok (.val x) E1) (ht : truD x = some false) : ev G (.and_ a b) E = .ok (.val x) E1 := by
  rw [evq_and_, h]
  show (match (rdO E1 (.val x)).bind truD with
    | some true => ev G b E1
    | some false => R.ok (Opd.val x) E1
    | none => R.bad) = _
  rw [show (rdO E1 (.val x)).bind truD = some false from ht]
theorem x_or_f {a b : IR} {E E1 : Env} {x : D} (h : ev G a E = .ok (.val x) E1) (ht : truD x = some false) : ev G (.or_ a b) E = ev G b E1 := by
  rw [evq_or_, h]
  show (match (rdO E1 (.val x)).bind truD with
    | some true => R.ok (Opd.val x) E1
    | some false => ev G b E1
    | none => R.bad) = _
  rw [show (rdO E1 (.val x)).bind truD = some false from ht]
theorem x_or_t {a b : IR} {E E1 : Env} {x : D} (h : ev G a E = .ok (.val x) E1) (ht : truD x = some true) : ev G (.or_ a b) E = .ok (.val x) E1 := by
  rw [evq_or_, h]
  show (match (rdO E1 (.val x)).bind truD with
    | some true => R.ok (Opd.val x) E1
    | some false => ev G b E1
    | none => R.bad) = _
  rw [show (rdO E1 (.val x)).bind truD = some true from ht]
theorem x_not {a : IR} {E E1 : Env} {x : D} {b : Bool} (h : ev G a E = .ok (.val x) E1) (ht : truD x = some b) : ev G (.not_ a) E = .ok (.val (.bl (!b))) E1 := by
  rw [evq_not_, h]
  show (match (rdO E1 (.val x)).bind truD with
    | some b => R.ok (Opd.val (.bl (!b))) E1
    | none => R.bad) = _
  rw [show (rdO E1 (.val x)).bind truD = some b from ht]
theorem x_notb {a : IR} {E E1 : Env} {b : Bool} (h : ev G a E = .ok (.val (.bl b)) E1) : ev G (.not_ a) E = .ok (.val (.bl (!b))) E1 := x_not h rfl
theorem x_tup {es : List IR} {E E1 : Env} {ds : List D} (h : evs G es E = .ok ds E1) (hl : ds.length ≤ BIG) : ev G (.tup es) E = .ok (.val (.tup ds)) E1 := by
  rw [evq_tup, h]
  show (if ds.length ≤ BIG then _ else _) = _
  rw [if_pos hl]
theorem x_lst {es : List IR} {E E1 : Env} {ds : List D} (h : evs G es E = .ok ds E1) (hl : ds.length ≤ BIG) : ev G (.lst es) E = .ok (.val (.lst ds)) E1 := by
  rw [evq_lst, h]
  show (if ds.length ≤ BIG then _ else _) = _
  rw [if_pos hl]
theorem x_ix {a b : IR} {E E1 E2 : Env} {x y z : D} (h : ev G a E = .ok (.val x) E1) (h2 : ev G b E1 = .ok (.val y) E2) (h3 : ixD x y = some z) : ev G (.ix a b) E = .ok (.val z) E2 := by
  rw [evq_ix, h]
  show ((ev G b E1).bind fun y e2 => match rdO e2 (.val x), rdO e2 y with
    | some p, some q => lift e2 (ixD p q)
    | _, _ => .bad) = _
  rw [h2]
  show lift E2 (ixD x y) = _
  rw [h3]; rfl
theorem x_blt1 {b : Blt} {a : IR} {E E1 : Env} {x z : D} (h : ev G a E = .ok (.val x) E1) (h3 : bltD b [x] = some z) : ev G (.blt b [a]) E = .ok (.val z) E1 := by
  rw [evq_blt, evr, h, R.bind_ok, evr, R.bind_ok, R.bind_ok]
  show lift E1 (bltD b [x]) = _
  rw [h3]; rfl
theorem take_okD {e : IR} {E E1 : Env} {d : D} (h : ev G e E = .ok (.val d) E1) : (ev G e E).take = .ok d E1 := by rw [h]; rfl
theorem tru_valB {e : IR} {E E1 : Env} {d : D} {b : Bool} (h : ev G e E = .ok (.val d) E1) (ht : truD d = some b) : truR (ev G e E) = .ok b E1 := by
  rw [h]
  show (match (rdO E1 (.val d)).bind truD with
    | some b => R.ok b E1
    | none => .bad) = _
  rw [show (rdO E1 (.val d)).bind truD = some b from ht]
theorem t_asg {i : Nat} {e : IR} {E E1 E2 : Env} {d : D} (h : ev G e E = .ok (.val d) E1) (hb : bindT (.name i) d E1 = some E2) : evS G (.asg (.name i) e) E = .nx E2 := by
  rw [evS, take_okD h]
  show (match bindT (.name i) d E1 with
    | some e2 => SR.nx e2
    | none => .bad) = _
  rw [hb]
theorem t_if_f {e : IR} {A B : List ST} {E E1 : Env} {d : D} (h : ev G e E = .ok (.val d) E1) (ht : truD d = some false) : evS G (.if_ e A B) E = evSs G B E1 := by
  rw [evS, tru_valB h ht]; rfl
theorem t_if_t {e : IR} {A B : List ST} {E E1 : Env} {d : D} (h : ev G e E = .ok (.val d) E1) (ht : truD d = some true) : evS G (.if_ e A B) E = evSs G A E1 := by
  rw [evS, tru_valB h ht]; rfl
theorem t_if_f0 {e : IR} {A : List ST} {E E1 : Env} (h : ev G e E = .ok (.val (.bl false)) E1) : evS G (.if_ e A []) E = .nx E1 := by
  rw [t_if_f h rfl, evSs]
theorem t_ret {e : IR} {E E1 : Env} {d : D} (h : ev G e E = .ok (.val d) E1) : evS G (.ret e) E = .rt d E1 := by
  rw [evS, take_okD h]; rfl
theorem t_expr {e : IR} {E E1 : Env} {d : D} (h : ev G e E = .ok (.val d) E1) : evS G (.expr e) E = .nx E1 := by
  rw [evS, h]; rfl
theorem t_raise {C f : Str} {e : IR} {E E1 : Env} {d : D} (h : ev G e E = .ok (.val d) E1) : evS G (.raise C f e) E = .exc C f d E1 := by
  rw [evS, evs1 h]; rfl
theorem ss_nx {s : ST} {ss : List ST} {E E1 : Env} (h : evS G s E = .nx E1) : evSs G (s :: ss) E = evSs G ss E1 := by
  rw [evSs, h]; rfl
theorem ss_rt {s : ST} {ss : List ST} {E E1 : Env} {d : D} (h : evS G s E = .rt d E1) : evSs G (s :: ss) E = .rt d E1 := by
  rw [evSs, h]; rfl
theorem ss_exc {s : ST} {ss : List ST} {E E1 : Env} {C f : Str} {d : D} (h : evS G s E = .exc C f d E1) : evSs G (s :: ss) E = .exc C f d E1 := by
  rw [evSs, h]; rfl
theorem ss0 {E : Env} : evSs G [] E = .nx E := by rw [evSs]
theorem t_for {tg : Tgt} {it : IT} {b : List ST} {E E1 : Env} {ds : List D} {r : SR} (h : evi G it E = .ok ds E1) (hf : forL tg (fun e => evSs G b e) ds E1 = r) : evS G (.for_ tg it b) E = r := by
  rw [evS, h]; exact hf
/-- a def without a changed argument -/
theorem sem_rt {m : Nat} {b : List ST} {ds : List D} {d : D} {e : Env} (h : evSs G b (startE none m ds) = .rt d e) : semB G m none b ds = .ok d [] := by
  rw [semB, h]; rfl
theorem sem_exc {m : Nat} {b : List ST} {ds : List D} {C f : Str} {d : D} {e : Env} (h : evSs G b (startE none m ds) = .exc C f d e) : semB G m none b ds = .exc C f d [] := by
  rw [semB, h]; rfl
/-- a for whose turns all go on, an invariant kept -/
theorem forL_keep {α : Type} {tg : Tgt} {body : Env → SR} (f : α → D) (Inv : Env → Prop) : ∀ (l : List α) (env : Env), Inv env → (∀ a, a ∈ l → ∀ env, Inv env → ∃ e1 e2, bindT tg (f a) env = some e1 ∧ body e1 = .nx e2 ∧ Inv e2) → ∃ e, forL tg body (l.map f) env = .nx e ∧ Inv e
  | [], env, h, _ => ⟨env, rfl, h⟩
  | a :: l, env, h, st => by
    obtain ⟨e1, e2, h1, h2, h3⟩ := st a List.mem_cons_self env h
    obtain ⟨e, k1, k2⟩ := forL_keep f Inv l e2 h3 fun b hb => st b (List.mem_cons_of_mem _ hb)
    refine ⟨e, ?_, k2⟩
    rw [List.map_cons, forL, h1]
    dsimp only
    rw [h2]
    exact k1
end
end Mp
set_option maxHeartbeats 4000000
set_option maxHeartbeats 4000000
namespace Mp
open PySem PySem.W L2 PyProof.Rows
section
variable {prog : Program} {w : World} {A : Around} {E : Value → Shared → Prop} {s : Shared} {K : Frag} {x C L f : Addr} {h₀ : Heap} {m : Str → Option Value} {ox : Obj} {od : Option Obj} {b tb : Value}
theorem ifBound_slot {M : Model} {id : String} {name : Str} {args : List Value} {Q : Option Value → Shared → Prop} (X : K.In s.heap) (I : InstAt s.heap x ox C od) (hs : findIn K (.ref C) name = some (some (.builtin id))) (hb : bindSpecial (.builtin id) (.ref x) = pure (.builtin id, [.ref x]))
    (h : wpAny M A (call (.builtin id) (.ref x :: args)) (fun v => Q (some v)) E s) : wpAny M A (callSpecialIfBound? (.ref x) name args) Q E s := by
  simp only [callSpecialIfBound?, bindSpecialIfBound?]
  refine wpAny_holding (wpAny_bind (wpAny_bind (wpAny_bind (I.type.here ((looks_findIn X hs).here ?_)))))
  simp only [hb]
  refine wpAny_bind (wpAny_askSetting (wpAny_ite ?_))
  have fin : wpAny M A (call (.builtin id) ([.ref x] ++ args) >>= fun v => pure (some v)) Q E s := wpAny_bind (wpAny_mono h (fun v s' h' => wpAny_pure h') fun _ _ h' => h')
  split
  · exact wpAny_bind (wpAny_pure (wpAny_pure (by exact fin)))
  · exact wpAny_tryCatch (wpAny_bind (wpAny_pure (wpAny_pure (by exact fin))))
theorem objNe_K (X : K.In s.heap) (I : InstAt s.heap x ox C od) (hu : A.units < cLine) (hs : findIn K (.ref C) "__eq__" = some (some (.ref f))) (hf : isFn K (.ref f) = true) {Q : Fin → Shared → Prop}
    (hcall : wpAny (model prog w) A (call (.ref f) [.ref x, b]) (fun v s' => ∃ c, v = .bool c ∧ Q (.done (.ret (.bool (!c)))) s') E s) :
    wpAny (model prog w) A (Builtin.«object.__ne__» ⟨[.ref x, b], []⟩) Q E s := by
  unfold Builtin.«object.__ne__»
  repeat (first
    | with_reducible refine wpAny_cRoomFor hu ?_
    | (refine wpAny_bind (m := callSpecialIfBound? (.ref x) (Str.ofString "__eq__") [b])
        (ifBound_K X I hs hf (wpAny_mono hcall (fun r s' hr => by
          obtain ⟨b, rfl, hq⟩ := hr
          repeat (first | exact hq | exact wpAny_pure hq | exact wpAny_truthy_bool hq | (refine wpAny_bind (m := truthy (.bool _)) (wpAny_truthy_bool ?_)) | wp_step)) fun _ _ e => e)))
    | wp_step)
theorem cmpNe_K {Q : Value → Shared → Prop} (hu : A.units + 1 < cLine) (F0 : Fr h₀ L s.heap m) (X₀ : K.In h₀) (I : InstAt s.heap x ox C od) (hb : Looks (model prog w) s.heap (typeOf b) tb) (hn : notFirst K C tb = true)
    (hne : findIn K (.ref C) "__ne__" = some (some (.builtin "object.__ne__"))) (hob : mroIn K C (.type "object") = some true) (hs : findIn K (.ref C) "__eq__" = some (some (.ref f))) (hf : isFn K (.ref f) = true)
    (h : wpAny (model prog w) A.in1 (call (.ref f) [.ref x, b]) (fun v s' => ∃ c, v = .bool c ∧ Q (.bool (!c)) s') E s) : wpAny (model prog w) A (richCompare .NotEq (.ref x) b) Q E s := by
  have X := X₀.keeps F0.keep
  have sub : Looks (model prog w) s.heap (isInstance (.ref x) (.type "object")) true := I.type.andThen (W.looks_mroIn X hob)
  have one : wpAny (model prog w) A (tryCompare (.ref x) (cmpInfo .NotEq).2.1 b) (fun r s' => ∃ v, r = some v ∧ Q v s') E s := by
    unfold tryCompare
    refine wpAny_bind (ifBound_slot (id := "object.__ne__") X I hne (PySem.F.slot_object_ne.bind _) (wpAny_call (codeAny_call_builtin PySem.F.slot_object_ne.plain PySem.F.entry_object_ne (W.check_slot PySem.F.cmpKind_ne PySem.F.cmpSplit_ne sub (PySem.F.args_object_ne_2 _ _)
      (objNe_K (A := A.in1) X I hu hs hf (wpAny_mono h (fun v s' hv => ?_) fun _ _ e => e))))))
    obtain ⟨c, rfl, hq⟩ := hv
    first | exact ⟨c, rfl, wpAny_pure ⟨_, rfl, hq⟩⟩ | exact ⟨c, rfl, wpAny_pure (wpAny_pure ⟨_, rfl, hq⟩)⟩
  unfold richCompare
  simp only [oneThing_ref]
  refine wpAny_holding (wpAny_bind (wpAny_cRoomFor (Nat.lt_of_succ_lt hu) ?_))
  refine wpAny_bind (I.type.here (wpAny_bind (hb.here ?_)))
  split
  · rename_i q
    have e : subIn K tb (.ref C) = some false := by
      rcases Bool.or_eq_true_iff.mp hn with e | e
      · rw [beq_iff_eq.mp e] at q; simp at q
      · exact beq_iff_eq.mp e
    refine wpAny_bind ((looks_subIn X e).here ?_)
    simp only [Bool.false_eq_true, if_false]
    refine wpAny_bind (wpAny_mono one (fun r s' z => ?_) fun _ _ e => e)
    obtain ⟨v, rfl, hq⟩ := z
    exact wpAny_pure hq
  · refine wpAny_bind (wpAny_pure ?_)
    simp only [Bool.false_eq_true, if_false]
    refine wpAny_bind (wpAny_mono one (fun r s' z => ?_) fun _ _ e => e)
    obtain ⟨v, rfl, hq⟩ := z
    exact wpAny_pure hq
end
section
variable {X : Cx} {pins : List (Addr × Obj)} {σ : L2.St} {H : Hp} {s : Shared}
/-- a value's type, looked up -/
theorem look_of {x : V} {u t : Value} (I : Inv X pins σ H s) (rx : RelV x u) (ty : TyX X.K H x t) (hb : ∀ n, t = .type n → n ≠ "bytes" ∧ n ≠ "set" ∧ n ≠ "float") : Looks (model X.prog X.w) s.heap (typeOf u) t := by
  cases ty with
  | base b =>
    cases b with
    | non => cases (show u = Value.none from rx); exact Looks.of_pure rfl
    | bl y => cases (show u = Value.bool y from rx); exact Looks.of_pure rfl
    | int i => obtain ⟨t, q⟩ := (show ∃ t, u = Value.int i t from rx); cases q; exact Looks.of_pure rfl
    | str y => obtain ⟨t, q⟩ := (show ∃ t, u = Value.str y t from rx); cases q; exact Looks.of_pure rfl
    | flt y => exact absurd rfl (hb _ rfl).2.2
    | @lst a xs ea =>
      cases (show u = Value.ref a from rx)
      obtain ⟨_, _, n, _, h1⟩ := (show ObjOk X.prog X.w H s.heap a (.lst xs) from I.hok a _ ea)
      exact fun A Q E s k q => wpAny_typeOf_ref (k _ _ h1) q
    | @frz a ob xs ea =>
      cases (show u = Value.ref a from rx)
      obtain ⟨_, _, _, n, _, h1⟩ := (show ObjOk X.prog X.w H s.heap a (.frz ob (.lst xs)) from I.hok a _ ea)
      exact fun A Q E s k q => wpAny_typeOf_ref (k _ _ h1) q
    | @tup a xs ea =>
      cases (show u = Value.ref a from rx)
      obtain ⟨_, _, _, o, h1, h2, _⟩ := (show ObjOk X.prog X.w H s.heap a (.tup xs) from I.hok a _ ea)
      exact fun A Q E s k q => wpAny_typeOf_ref (k _ _ h1) (by rw [h2]; exact q)
    | @dK a kvs ea =>
      cases (show u = Value.ref a from rx)
      obtain ⟨_, _, vs, _, o, es, ep, h1, h2, _⟩ := (show ObjOk X.prog X.w H s.heap a (.dK kvs) from I.hok a _ ea)
      exact fun A Q E s k q => wpAny_typeOf_ref (k _ _ h1) (by rw [h2.1]; exact q)
    | @dT a kvs ea =>
      cases (show u = Value.ref a from rx)
      obtain ⟨_, _, xs, _, o, es, ep, h1, h2, _⟩ := (show ObjOk X.prog X.w H s.heap a (.dT kvs) from I.hok a _ ea)
      exact fun A Q E s k q => wpAny_typeOf_ref (k _ _ h1) (by rw [h2.1]; exact q)
    | @ins a C dx fs ea cl ha hn htk hm =>
      cases (show u = Value.ref a from rx)
      obtain ⟨mA, O, _⟩ := ins_get I.hok ea
      obtain ⟨od, J, _⟩ := O.look
      exact J.type
  | byt y => exact absurd rfl (hb _ rfl).1
  | @set a S n ea => exact absurd rfl (hb _ rfl).2.1
  | @kList a o e c =>
    cases (show u = Value.ref a from rx)
    have h1 := I.kIn a o e
    exact fun A Q E s k q => wpAny_typeOf_ref (k _ _ h1) (by rw [c]; exact q)
  | @kTuple a o e c =>
    cases (show u = Value.ref a from rx)
    have h1 := I.kIn a o e
    exact fun A Q E s k q => wpAny_typeOf_ref (k _ _ h1) (by rw [c]; exact q)
  | @kDict a o e c =>
    cases (show u = Value.ref a from rx)
    have h1 := I.kIn a o e
    exact fun A Q E s k q => wpAny_typeOf_ref (k _ _ h1) (by rw [c]; exact q)
  | @fTuple a ob xs ea =>
    cases (show u = Value.ref a from rx)
    obtain ⟨_, _, _, _, o, h1, h2, _⟩ := (show ObjOk X.prog X.w H s.heap a (.frz ob (.tup xs)) from I.hok a _ ea)
    exact fun A Q E s k q => wpAny_typeOf_ref (k _ _ h1) (by rw [h2]; exact q)
  | @fDict a ob kvs ea =>
    cases (show u = Value.ref a from rx)
    obtain ⟨_, _, _, vs, _, o, es, ep, h1, h2, _⟩ := (show ObjOk X.prog X.w H s.heap a (.frz ob (.dK kvs)) from I.hok a _ ea)
    exact fun A Q E s k q => wpAny_typeOf_ref (k _ _ h1) (by rw [h2.1]; exact q)
end
/-- the built-in kinds of data are no subclasses of an own class -/
structure NFo (K : PySem.W.Frag) (C : Str) : Prop where
  n : subIn K (.type "NoneType") (.ref (clsAt K C)) = some false
  b : subIn K (.type "bool") (.ref (clsAt K C)) = some false
  i : subIn K (.type "int") (.ref (clsAt K C)) = some false
  s : subIn K (.type "str") (.ref (clsAt K C)) = some false
  l : subIn K (.type "list") (.ref (clsAt K C)) = some false
  t : subIn K (.type "tuple") (.ref (clsAt K C)) = some false
  d : subIn K (.type "dict") (.ref (clsAt K C)) = some false
  ne : findIn K (.ref (clsAt K C)) "__ne__" = some (some (.builtin "object.__ne__"))
section
variable [TabsW] [GdW] {X : Cx} {G : Ctx} {W : WX}
def rOq (K : PySem.W.Frag) (C : Addr) (n : Nat) (F : List D → FR) (neg : Bool) : R2 := fun x y H Q => ∃ a dx fs t, x = .ref a ∧ H a = some (.ins C dx fs) ∧ TyX K H y t ∧ (∀ n, t = .type n → n ≠ "bytes" ∧ n ≠ "set" ∧ n ≠ "float") ∧ notFirst K C t = true ∧ ∀ E, spF K n none F [x, y] H (fun v H' => ∃ c, v = .bl c ∧ Q (.bl (neg ^^ c)) H') E
theorem op_oeq {k : Nat} {m : Mt} (F0 : MtF X.prog X.w X.K X.mg X.base k m) (hn : m.name = "__eq__") (hr : Room k X.A) (tk : Takes X W) : OpR X (compareOp .Eq) (rOq X.K (clsAt X.K m.C) m.n m.sem false) := by
  intro pins s σ H x y v u Q I rx ry h
  obtain ⟨a, dx, fs, t, rfl, ha, ty, hbt, nf, q⟩ := h
  obtain ⟨f, fd, ps, sp, ds, dvs, hm, ok, bi, hd, hs⟩ := F0.ex
  cases (show v = Value.ref a from rx)
  obtain ⟨mA, O, _⟩ := ins_get I.hok ha
  obtain ⟨od, J, _⟩ := O.look
  obtain ⟨m', hF⟩ := I.fr
  have hat : findIn X.K (.ref (clsAt X.K m.C)) (cmpInfo .Eq).2.1 = some (some (.ref f)) := by have := hm.at_; rw [hn] at this; exact this
  show wpAny (model X.prog X.w) X.A (richCompare .Eq (.ref a) u) (EP X pins σ Q) X.xe s
  refine PySem.W.cmp_K (op := .Eq) (tb := t) hr.r.units0 hF I.ok.mod.kin J (look_of I ry ty hbt) nf hat hm.fn ?_
  refine wpAny_mono (run_fnSD (E := WE W) (us := [.ref a, u]) (vs := [.ref a, y]) ok hr bi hd (passAt tk σ) I (.cons rfl (.cons ry .nil)) (hs _ _ _ _ (q (WE W σ)))) (fun w s' z => ?_) fun _ _ x => x
  obtain ⟨z', H', I', rz, c, rfl, qz⟩ := z
  exact SlX.cmpback rz ⟨_, H', I', rz, by rw [Bool.false_xor] at qz; exact qz⟩
theorem op_onq {k : Nat} {m : Mt} (F0 : MtF X.prog X.w X.K X.mg X.base k m) (hn : m.name = "__eq__") (NF : NFo X.K m.C) (hob : mroIn X.K (clsAt X.K m.C) (.type "object") = some true) (hr : Room (k + 1) X.A) (tk : Takes X W) : OpR X (compareOp .NotEq) (rOq X.K (clsAt X.K m.C) m.n m.sem true) := by
  intro pins s σ H x y v u Q I rx ry h
  obtain ⟨a, dx, fs, t, rfl, ha, ty, hbt, nf, q⟩ := h
  obtain ⟨f, fd, ps, sp, ds, dvs, hm, ok, bi, hd, hs⟩ := F0.ex
  cases (show v = Value.ref a from rx)
  obtain ⟨mA, O, _⟩ := ins_get I.hok ha
  obtain ⟨od, J, _⟩ := O.look
  obtain ⟨m', hF⟩ := I.fr
  have hat : findIn X.K (.ref (clsAt X.K m.C)) "__eq__" = some (some (.ref f)) := by have := hm.at_; rw [hn] at this; exact this
  have hu : X.A.units + 1 < cLine := by have := hr.r.un; omega
  show wpAny (model X.prog X.w) X.A (richCompare .NotEq (.ref a) u) (EP X pins σ Q) X.xe s
  refine cmpNe_K (tb := t) hu hF I.ok.mod.kin J (look_of I ry ty hbt) nf NF.ne hob hat hm.fn ?_
  have hr1 : Room k X.A.in1 := ⟨hr.r.in1, hr.g⟩
  have rr : Vals ([V.ref a, y] ++ dvs) ([Value.ref a, u] ++ ds) := (show Vals [V.ref a, y] [Value.ref a, u] from .cons rfl (.cons ry .nil)).append hd
  have want := hs _ _ _ _ (q (WE W σ))
  have many : ([Value.ref a, u] ++ ds).length = ps.length := rr.length.symm.trans (ok.len _ _ _ _ want)
  refine wpAny_call (codeAny_mono (ok.go _ X.stack _ _ ⟨[.ref a, u], []⟩ _ _ _ (WE W σ) hr1 I.env0.in1 (bi _ [.ref a, u] I.kIn many) rr want) fun res s' got => ?_)
  match res, got with
  | .error e, got => exact passAt tk σ pins _ _ e s' I got
  | .ok (.ret w), got =>
    obtain ⟨z', H', I', rz, c, rfl, qz⟩ := I.after got
    cases (show w = Value.bool c from rz)
    refine ⟨c, rfl, .bl (!c), H', I', rfl, ?_⟩
    rw [Bool.true_xor] at qz
    exact qz
  | .ok .next, got => exact got.elim
  | .ok .brk, got => exact got.elim
  | .ok .cont, got => exact got.elim
end
end Mp
set_option maxHeartbeats 4000000
namespace Mp
open PySem L2 PyProof.Rows
variable [TabsW] [GdW]
section
variable {X : Cx} {G : Ctx} {W : WX}
def okD (C : Str) (d : D) : Bool := match d with
  | .obj C' _ _ => decide (C' = C)
  | .raw _ => false
  | .fn _ => false
  | _ => true
theorem evq_oeq {neg : Bool} {j : Nat} {a b : IR} {env : Env} : ev G (.oeq neg j a b) env = ((ev G a env).bind fun x e1 => (ev G b e1).bind fun y e2 => match G.mts[j]?, x, y with
    | some m, .val (.obj C ns ds), .val d => if C = m.C ∧ m.n = 2 ∧ okD m.C d = true then (match m.sem [.obj C ns ds, d] with
      | .ok (.bl k) _ => .ok (.val (.bl (neg ^^ k))) e2
      | _ => .bad) else .bad
    | _, _, _ => .bad) := by first | (rw [ev]; done) | (rw [ev]; rfl)
theorem type_of {K : PySem.W.Frag} {m : Mt} (IC : IsC K m.C) (NF : NFo K m.C) {H : Hp} {M : AS} {d : D} {v : V} (r : Rep K H M d v) (k : okD m.C d = true) : ∃ t, TyX K H v t ∧ (∀ n, t = .type n → n ≠ "bytes" ∧ n ≠ "set" ∧ n ≠ "float") ∧ PySem.W.notFirst K (clsAt K m.C) t = true := by
  have ok : ∀ n : String, n ∈ ["NoneType", "bool", "int", "str", "list", "tuple", "dict"] → ∀ n', Value.type n = .type n' → n' ≠ "bytes" ∧ n' ≠ "set" ∧ n' ≠ "float" := fun n hn n' e => by
    cases e
    simp only [List.mem_cons, List.not_mem_nil, or_false] at hn
    rcases hn with rfl | rfl | rfl | rfl | rfl | rfl | rfl <;> decide
  have nf : ∀ t, PySem.W.subIn K t (.ref (clsAt K m.C)) = some false → PySem.W.notFirst K (clsAt K m.C) t = true := fun t h => by
    unfold PySem.W.notFirst
    rw [h]
    simp
  have rt := Rep.top r
  cases d with
  | non => rw [rt.non]; exact ⟨_, .base .non, ok _ (by simp), nf _ NF.n⟩
  | bl b => rw [rt.bl]; exact ⟨_, .base (.bl b), ok _ (by simp), nf _ NF.b⟩
  | int i => rw [rt.int]; exact ⟨_, .base (.int i), ok _ (by simp), nf _ NF.i⟩
  | str i => rw [rt.str]; exact ⟨_, .base (.str i), ok _ (by simp), nf _ NF.s⟩
  | lst ds =>
    obtain ⟨a, xs, rfl, h, _⟩ := rt
    refine ⟨.type "list", ?_, ok _ (by simp), nf _ NF.l⟩
    rcases h with (h | ⟨o, h⟩) | ⟨o, its, n, h, hc, _⟩
    · exact .base (.lst h)
    · exact .base (.frz h)
    · exact .kList h hc
  | tup ds =>
    obtain ⟨a, xs, rfl, h, _⟩ := rt
    refine ⟨.type "tuple", ?_, ok _ (by simp), nf _ NF.t⟩
    rcases h with h | ⟨o, h⟩
    · exact .base (.tup h)
    · exact .fTuple h
  | obj C ns ds =>
    have hC : C = m.C := of_decide_eq_true k
    subst hC
    unfold Rep at r
    obtain ⟨a, dx, xs, rfl, _, h, _⟩ := r
    refine ⟨_, .base (.ins h IC.cl IC.ha IC.hn IC.ht IC.hm), fun n h => (nomatch h), ?_⟩
    unfold PySem.W.notFirst
    simp
  | raw w => cases k
  | fn x => cases k
  | dct =>
    unfold Rep at r
    obtain ⟨a, _, rfl, _, h⟩ := r
    exact ⟨_, .base (.dK h), ok _ (by simp), nf _ NF.d⟩
theorem oeq_read {K : PySem.W.Frag} {j : Nat} {m : Mt} {neg : Bool} {a b : IR} (hj : G.mts[j]? = some m) (IC : IsC K m.C) (NF : NFo K m.C) {σ : L2.St} {H : Hp} {Q : VK} (q : tI G W K (.oeq neg j a b) σ H Q) : tOp (rOq K (clsAt K m.C) m.n m.sem neg) (tI G W K a) (tI G W K b) σ H Q := by
  obtain ⟨H0, M0, A, env, E, q⟩ := q
  rw [evq_oeq] at q
  refine ⟨H0, M0, A, env, E, (Sat.bind q).mono fun o e1 H1 _ s1 u1 E1 h1 x hx => ?_⟩
  refine ⟨H0, M0, A, e1, E1, (Sat.bind h1).mono fun o2 e2 H2 _ s2 u2 E2 h2 y hy => ?_⟩
  rw [hj] at h2
  have hx2 := hx.hold E1.aM s2 u2
  cases o with
  | pl i => exact h2.elim
  | val d =>
    cases o2 with
    | pl i => cases d <;> exact h2.elim
    | val d2 =>
      cases d with
      | obj C ns ds =>
        have h2 : Sat K H0 M0 A W (if C = m.C ∧ m.n = 2 ∧ okD m.C d2 = true then (match m.sem [.obj C ns ds, d2] with
            | .ok (.bl k) _ => R.ok (.val (.bl (neg ^^ k))) e2
            | _ => .bad) else .bad) e2 σ H2 (fun o e1 H1 => ∀ v, OpdR K M0 e1 σ H1 o v → Q v H1) := h2
        by_cases hc : C = m.C ∧ m.n = 2 ∧ okD m.C d2 = true
        · rw [if_pos hc] at h2
          obtain ⟨hC, hn, hk⟩ := hc
          have rx : Rep K H2 (MM M0 e2 σ) (.obj C ns ds) x := hx2
          have ry : Rep K H2 (MM M0 e2 σ) d2 y := hy
          have rx1 := rx
          unfold Rep at rx1
          obtain ⟨a1, dx, xs, rfl, _, g1, _⟩ := rx1
          obtain ⟨t, ty, hbt, nf⟩ := type_of IC NF ry hk
          refine ⟨a1, dx, _, t, rfl, by rw [← hC]; exact g1, ty, hbt, nf, fun E => ⟨by rw [hn]; rfl, MM M0 e2 σ, [.obj C ns ds, d2], E2.mok, ⟨rfl, fun i d v h3 h4 => ⟨fun _ => ?_, fun z => nomatch z⟩⟩, ?_⟩⟩
          · obtain ⟨v', w1, w2⟩ := (RepL.cons rx (RepL.cons ry RepL.nil)).get h3
            rw [h4] at w1; cases w1
            exact w2
          · cases e : m.sem [.obj C ns ds, d2] with
            | bad => rw [e] at h2; exact h2.elim
            | exc C f d out => rw [e] at h2; exact h2.elim
            | ok d out =>
              rw [e] at h2
              cases d <;> first | exact h2.elim | skip
              rename_i kb
              intro v H' st _ rv
              have hv : v = .bl kb := by unfold Rep at rv; exact rv
              have st' : Stp NoA H2 H' := st.weak fun a ⟨i, z, _⟩ => nomatch z
              have rb : OpdR K M0 e2 σ H' (.val (.bl (neg ^^ kb))) (.bl (neg ^^ kb)) := rep_bl (K := K) (H := H') (M := MM M0 e2 σ) (neg ^^ kb)
              exact ⟨kb, hv, h2 H' st'.no Sub.refl (E2.keep st') _ rb⟩
        · rw [if_neg hc] at h2; exact h2.elim
      | _ => exact h2.elim
theorem oeq_bl {neg : Bool} {j : Nat} {a b : IR} {env e1 : Env} {o : Opd} (h : ev G (.oeq neg j a b) env = .ok o e1) : ∃ k, o = .val (.bl k) := by
  rw [evq_oeq] at h
  cases h1 : ev G a env with
  | bad => rw [h1] at h; cases h
  | exc C f d e => rw [h1] at h; cases h
  | ok x e2 =>
    rw [h1, R.bind_ok] at h
    cases h2 : ev G b e2 with
    | bad => rw [h2] at h; cases h
    | exc C f d e => rw [h2] at h; cases h
    | ok y e3 =>
      rw [h2, R.bind_ok] at h
      split at h
      · split at h
        · split at h
          · cases h; exact ⟨_, rfl⟩
          · cases h
        · cases h
      · cases h
theorem t_oeq {k j : Nat} {m : Mt} {a b : Expr} {a' b' : IR} {pos : Pos} (F : MtF X.prog X.w X.K X.mg X.base k m) (hn : m.name = "__eq__") (IC : IsC X.K m.C) (NF : NFo X.K m.C) (hj : G.mts[j]? = some m) (hr : Room k X.A) (tk : Takes X W) (ha : PE X a (tI G W X.K a')) (hb : PE X b (tI G W X.K b'))
    (hm : behindInMarks .Eq b = false) : PT X (.Compare a [.Eq] [b] pos) (tIt G W X.K (.oeq false j a' b')) := PT.by_ (pt_cmpR (op_oeq F hn hr tk) ha hb hm) fun σ H Q q => oeq_read hj IC NF (tru_val (fun env o e1 h => oeq_bl h) q)
theorem t_onq {k j : Nat} {m : Mt} {a b : Expr} {a' b' : IR} {pos : Pos} (F : MtF X.prog X.w X.K X.mg X.base k m) (hn : m.name = "__eq__") (IC : IsC X.K m.C) (NF : NFo X.K m.C) (hj : G.mts[j]? = some m) (hr : Room (k + 1) X.A) (tk : Takes X W) (ha : PE X a (tI G W X.K a')) (hb : PE X b (tI G W X.K b'))
    (hm : behindInMarks .NotEq b = false) : PT X (.Compare a [.NotEq] [b] pos) (tIt G W X.K (.oeq true j a' b')) := PT.by_ (pt_cmpR (op_onq F hn NF IC.hm hr tk) ha hb hm) fun σ H Q q => oeq_read hj IC NF (tru_val (fun env o e1 h => oeq_bl h) q)
theorem x_oeq {neg : Bool} {j : Nat} {a b : IR} {E E1 E2 : Env} {m : Mt} {C : Str} {ns : List Str} {ds out : List D} {d : D} {z : Bool} (hm : G.mts[j]? = some m) (h : ev G a E = .ok (.val (.obj C ns ds)) E1) (h2 : ev G b E1 = .ok (.val d) E2) (hc : C = m.C ∧ m.n = 2 ∧ okD m.C d = true) (hs : m.sem [.obj C ns ds, d] = .ok (.bl z) out) : ev G (.oeq neg j a b) E = .ok (.val (.bl (neg ^^ z))) E2 := by
  rw [evq_oeq, h]
  show ((ev G b E1).bind _) = _
  rw [h2, hm]
  show (if C = m.C ∧ m.n = 2 ∧ okD m.C d = true then (match m.sem [.obj C ns ds, d] with
      | .ok (.bl k) _ => R.ok (Opd.val (.bl (neg ^^ k))) E2
      | _ => .bad) else .bad) = _
  rw [if_pos hc, hs]
end
end Mp
set_option maxHeartbeats 4000000
namespace Mp
open PySem L2 PyProof.Rows
variable [TabsW] [GdW]
section
variable {X : Cx} {G : Ctx} {W : WX}
theorem RepL.rev {K : PySem.W.Frag} {H : Hp} {M : AS} : ∀ {ds : List D} {xs : List V}, RepL K H M ds xs → RepL K H M ds.reverse xs.reverse
  | [], xs, r => by
    have : xs = [] := by unfold RepL at r; exact r
    rw [this] at r ⊢; exact r
  | d :: ds, xs, r => by
    have r' := r
    unfold RepL at r'
    obtain ⟨x, ys, rfl, h1, h2⟩ := r'
    rw [List.reverse_cons, List.reverse_cons]
    exact (RepL.rev h2).append (by unfold RepL; exact ⟨x, [], rfl, h1, by unfold RepL; rfl⟩)
end
end Mp
set_option maxHeartbeats 4000000
set_option maxHeartbeats 4000000
set_option maxHeartbeats 4000000
set_option maxHeartbeats 4000000
set_option maxHeartbeats 4000000
namespace Mp
open PySem L2 PyProof.Rows
variable [TabsW] [GdW]
section
variable {X : Cx} {G : Ctx} {W : WX}
theorem PK.by_ {kws : List Keyword} {t t' : TA} (h : PK X kws t) (i : ∀ σ H Q, t' σ H Q → t σ H Q) : PK X kws t' := ⟨fun pos pins s σ H Q I q => h.run pos pins s σ H Q I (i σ H Q q)⟩
theorem ak_nil : PK X [] (tIs G W X.K []) := PK.by_ pk_nil fun σ H Q q => by
  obtain ⟨H0, M0, A, env, E, q⟩ := q
  rw [evs] at q
  exact q H Stp.refl Sub.refl E [] RepL.nil
theorem ak_cons {e : Expr} {nm : Option Str} {kpos : Pos} {kws : List Keyword} {i : IR} {is : List IR} (ha : PE X e (tI G W X.K i)) (hr : PK X kws (tIs G W X.K is)) : PK X (⟨nm, e, kpos⟩ :: kws) (tIs G W X.K (i :: is)) := PK.by_ (pk_cons ha hr) fun σ H Q q => by
  obtain ⟨H0, M0, A, env, E, q⟩ := q
  rw [evs] at q
  unfold R.take at q
  rw [R.bind_assoc] at q
  refine ⟨H0, M0, A, env, E, (Sat.bind q).mono fun o e1 H1 _ s1 u1 E1 h1 x hx => ?_⟩
  cases e : takeO e1 o with
  | none => rw [e] at h1; exact h1.elim
  | some p =>
    obtain ⟨d, e2⟩ := p
    rw [e] at h1
    obtain ⟨E2, rd, u2⟩ := E1.take hx e
    have h2 : Sat X.K H0 M0 A W ((evs G is e2).bind fun ds e3 => .ok (d :: ds) e3) e1 σ H1 (fun ds e1 H1 => ∀ vs, RepL X.K H1 (MM M0 e1 σ) ds vs → Q vs H1) := h1
    have h3 : Sat X.K H0 M0 A W ((evs G is e2).bind fun ds e3 => .ok (d :: ds) e3) e2 σ H1 (fun ds e1 H1 => ∀ vs, RepL X.K H1 (MM M0 e1 σ) ds vs → Q vs H1) := h2.sub u2
    refine ⟨H0, M0, A, e2, E2, (Sat.bind h3).mono fun ds e3 H3 _ s3 u3 E3 h4 vs hv => ?_⟩
    exact h4 H3 Stp.refl Sub.refl E3 (x :: vs) (RepL.cons (hold rd E2.aM s3 u3) hv)
end
end Mp
set_option maxHeartbeats 4000000
namespace Mp
open PySem L2 PyProof.Rows
variable [TabsW] [GdW]
section
variable {K : PySem.W.Frag} {H H' H0 : Hp} {M M' M0 A : AS} {env : Env} {σ : L2.St}
def IsL (H : Hp) (b : Addr) : Prop := ∃ ys, H b = some (.lst ys)
/-- what is set apart, lists left out -/
def ML (M : AS) (H : Hp) : AS := fun b => M b ∧ ¬ IsL H b
theorem op_lent (E : EnvR K H0 M0 A env σ H) {o : Opd} {v : V} {d : D} (h : OpdR K M0 env σ H o v) (e : rdO env o = some d) : Rep K H (ML (MM M0 env σ) H) d v := by
  have wk : ∀ {es xs}, RepL K H (MM M0 env σ) es xs → RepL K H (ML (MM M0 env σ) H) es xs := fun {es xs} r => RepL.stp Stp.refl (fun x z => z.1) es xs r
  cases o with
  | val z =>
    cases e
    exact Rep.stp Stp.refl (fun x z => z.1) _ _ h
  | pl i =>
    obtain ⟨hs, c, hc⟩ := h
    have e : (cellAt env i).map content = some d := e
    rw [show cellAt env i = some c from by unfold cellAt; rw [hc]; rfl] at e
    cases e
    cases c with
    | dat d =>
      obtain ⟨w, hw, r⟩ := E.dat i d hc
      rw [hs] at hw; cases hw
      exact Rep.stp Stp.refl (fun x z => z.1) _ _ r
    | own ds =>
      obtain ⟨a, xs, hw, l, r, _⟩ := E.own i ds hc
      rw [hs] at hw; cases hw
      show Rep K H _ (.lst ds) (.ref a)
      unfold Rep
      exact ⟨a, xs, rfl, .inl ⟨fun z => z.2 ⟨xs, l⟩, .inl l⟩, wk r⟩
    | io ds =>
      obtain ⟨a, xs, hw, _, l, r⟩ := E.io i ds hc
      rw [hs] at hw; cases hw
      show Rep K H _ (.lst ds) (.ref a)
      unfold Rep
      exact ⟨a, xs, rfl, .inl ⟨fun z => z.2 ⟨xs, l⟩, .inl l⟩, wk r⟩
    | slf C ns ds => exact (E.slf i C ns ds hc).elim
theorem ops_lent (E : EnvR K H0 M0 A env σ H) : ∀ {os : List Opd} {vs : List V} {ds : List D}, Paired (OpdR K M0 env σ H) os vs → os.mapM (rdO env) = some ds → RepL K H (ML (MM M0 env σ) H) ds vs
  | _, _, ds, .nil, e => by
    cases e
    exact RepL.nil
  | o :: os, v :: vs, ds, .cons r t, e => by
    rw [List.mapM_cons] at e
    cases h : rdO env o with
    | none => rw [h] at e; cases e
    | some d =>
      rw [h] at e
      cases h2 : os.mapM (rdO env) with
      | none => rw [h2] at e; cases e
      | some es =>
        rw [h2] at e
        cases e
        unfold RepL
        exact ⟨v, vs, rfl, op_lent E r h, ops_lent E t h2⟩
mutual
theorem rep_back (m : ∀ a, M' a → M a ∨ IsL H a) : ∀ (d : D) (v : V), nolD d = true → Rep K H M d v → Rep K H M' d v
  | .non, v, _, h => by unfold Rep at h ⊢; exact h
  | .bl b, v, _, h => by unfold Rep at h ⊢; exact h
  | .int i, v, _, h => by unfold Rep at h ⊢; exact h
  | .str s, v, _, h => by unfold Rep at h ⊢; exact h
  | .raw w, v, n, h => by cases n
  | .fn x, v, n, h => by cases n
  | .dct, v, n, h => by cases n
  | .lst ds, v, n, h => by cases n
  | .tup ds, v, nn, h => by
    unfold nolD at nn
    unfold Rep at h ⊢
    obtain ⟨a, xs, rfl, n, q, r⟩ := h
    refine ⟨a, xs, rfl, fun z => (m a z).elim n fun ⟨ys, w⟩ => ?_, q, repL_back m ds xs nn r⟩
    rcases q with q | ⟨o, q⟩ <;> (rw [w] at q; cases q)
  | .obj C ns ds, v, nn, h => by
    unfold nolD at nn
    unfold Rep at h ⊢
    obtain ⟨a, dx, xs, rfl, n, q, z, r⟩ := h
    refine ⟨a, dx, xs, rfl, fun z => (m a z).elim n fun ⟨ys, w⟩ => ?_, q, z, repL_back m ds xs nn r⟩
    rw [w] at q; cases q
theorem repL_back (m : ∀ a, M' a → M a ∨ IsL H a) : ∀ (ds : List D) (xs : List V), nolDs ds = true → RepL K H M ds xs → RepL K H M' ds xs
  | [], xs, _, h => by unfold RepL at h ⊢; exact h
  | d :: ds, xs, nn, h => by
    unfold nolDs at nn
    rw [Bool.and_eq_true] at nn
    unfold RepL at h ⊢
    obtain ⟨x, ys, rfl, r, q⟩ := h
    exact ⟨x, ys, rfl, rep_back m d x nn.1 r, repL_back m ds ys nn.2 q⟩
end
end
theorem evr_len (G : Ctx) : ∀ (es : List IR) (env : Env) (p : List Opd) (e1 : Env), evr G es env = .ok p e1 → p.length = es.length
  | [], env, p, e1, h => by rw [evr] at h; cases h; rfl
  | e :: es, env, p, e1, h => by
    rw [evr] at h
    cases h1 : ev G e env with
    | bad => rw [h1] at h; cases h
    | exc C f d e2 => rw [h1] at h; cases h
    | ok d e2 =>
      rw [h1] at h
      have h : ((evr G es e2).bind fun ds e2 => R.ok (d :: ds) e2) = .ok p e1 := h
      cases h2 : evr G es e2 with
      | bad => rw [h2] at h; cases h
      | exc C f d e3 => rw [h2] at h; cases h
      | ok ds e3 =>
        rw [h2] at h
        cases h
        simp [evr_len G es e2 ds _ h2]
section
variable {X : Cx} {G : Ctx} {W : WX}
theorem makeL_read {K : PySem.W.Frag} {j : Nat} {m : Mkr} {is : List IR} (hj : G.mks[j]? = some m) {σ : L2.St} {H : Hp} {Q : VK} (q : tI G W K (.makeL j is) σ H Q) :
    tIr G W K is σ H fun vs H1 => ∀ o d, H1 o = none → H1 d = none → d ≠ o → spMk K m.C m.n m.ns m.sem (.ref o :: vs) (upd (upd H1 d (.own o)) o (.ins (clsAt K m.C) d [])) (fun v H2 => v = .non ∧ Q (.ref o) H2) (WE W σ) := by
  obtain ⟨H0, M0, A, env, E, q⟩ := q
  rw [ev, hj] at q
  dsimp only at q
  by_cases hl : is.length = m.n
  · rw [if_pos hl] at q
    refine ⟨H0, M0, A, env, E, (Sat.bind q).mono fun os e1 H1 he s1 u1 E1 h1 vs hv o d ho hd hne => ?_⟩
    cases hm : os.mapM (rdO e1) with
    | none => rw [hm] at h1; exact h1.elim
    | some ds =>
      rw [hm] at h1
      dsimp only at h1
      have t1 : Stp NoA H1 (upd (upd H1 d (.own o)) o (.ins (clsAt K m.C) d [])) := (Stp.new hd).trans (Stp.new (by rw [upd_ne (Ne.symm hne)]; exact ho))
      have lv : vs.length = m.n := by rw [← Paired.length hv, evr_len G is env os e1 he]; exact hl
      have rl := ops_lent E1 hv hm
      refine ⟨ML (MM M0 e1 σ) H1, ds, o, d, vs, ⟨fun b hb => t1.mo b (E1.mok.al b hb.1), fun P q h => t1.tb P q h (E1.tb P q h)⟩, rfl, lv, upd_same, fun z => (E1.fresh ho).1 z.1, RepL.stp t1.no (fun _ z => z) ds vs (RepL.grow (fun b z => z.elim .inl fun q => .inr (by rw [q]; exact nn_of ho)) ds vs rl), ?_⟩
      have back : ∀ {H' : Hp}, Stp (fun x => x = o) (upd (upd H1 d (.own o)) o (.ins (clsAt K m.C) d [])) H' → Stp NoA H1 H' := fun {H'} s => ⟨fun b u e _ t => s.st b u (t1.st b u e id t) (fun z => by rw [z, ho] at e; cases e) t, fun b h => s.mo b (t1.mo b h), fun P q m h => s.tb P q m (t1.tb P q m h)⟩
      have lets : ∀ {H' : Hp}, Stp (fun x => x = o) (upd (upd H1 d (.own o)) o (.ins (clsAt K m.C) d [])) H' → ∀ a, MM M0 e1 σ a → ML (MM M0 e1 σ) H1 a ∨ IsL H' a := fun {H'} s a z => by
        by_cases h : IsL H1 a
        · obtain ⟨ys, h⟩ := h
          exact .inr ⟨ys, (back s).st a _ h id nt_lst⟩
        · exact .inl ⟨z, h⟩
      cases e : m.sem ds with
      | bad => rw [e] at h1; exact h1.elim
      | ok r out =>
        rw [e] at h1
        dsimp only at h1
        by_cases hn : nolDs out = true
        · rw [if_pos hn] at h1
          intro xs H' st h' hlen rr
          refine ⟨rfl, h1 H' (back st).no Sub.refl (E1.keep (back st)) _ ?_⟩
          show Rep K H' (MM M0 e1 σ) (.obj m.C m.ns out) (.ref o)
          unfold Rep
          exact ⟨o, d, xs, rfl, (E1.fresh ho).1, h', hlen, repL_back (lets st) out xs hn rr⟩
        · rw [if_neg hn] at h1
          exact h1.elim
      | exc C f r out =>
        rw [e] at h1
        dsimp only at h1
        by_cases hn : nolD r = true
        · rw [if_pos hn] at h1
          intro dd v H' st h' rr
          exact h1 dd v H' (back st).no Sub.refl (E1.keep (back st)) h' (rep_back (lets st) r v hn rr)
        · rw [if_neg hn] at h1
          exact h1.elim
  · rw [if_neg hl] at q
    exact q.elim
/-- a class called; lists of one's own are lent -/
theorem e_makeL {k j : Nat} {m : Mkr} {x : Str} {e : Expr} {es : List Expr} {is : List IR} {p pos : Pos} (F : MkF X.prog X.w X.K X.mg X.base k x m) (hj : G.mks[j]? = some m) (hr : Room (k + 1) X.A) (tk : Takes X W) (hg : Gl X x) (ha : PA X (e :: es) (tIr G W X.K is)) (h1 : (e :: es).any starB = false) :
    PE X (.Call (.Name x p) (e :: es) [] pos) (tI G W X.K (.makeL j is)) := by
  rw [List.any_cons, Bool.or_eq_false_iff] at h1
  obtain ⟨a, fd, ps, sp, ds, dvs, hm, hk, ok, hb, hd, hs⟩ := F.ex
  refine ⟨fun pins s σ H Q I h => ?_⟩
  refine wpAny_Call_Name_kw (ld_glob I hg hm ?_ F.dbg)
  refine PySem.W.callWith_K (h₀ := X.base) I.ok.mod.kin hk.kp (thn (ha.run pos pins s σ H _ I (makeL_read hj h)) fun us s1 ⟨vs, H1, I1, r, q⟩ => ⟨I1.kIn, ?_⟩) (star_cons h1.1) (star_none h1.2)
  exact mkS (T := WE W) hk ok hr hb hd (passAt tk σ) I1 r fun o d ho hd' hne => hs _ _ _ _ _ (q o d ho hd' hne)
end
end Mp
set_option maxHeartbeats 4000000
namespace Mp
open PySem L2 PyProof.Rows
variable [TabsW] [GdW]
section
variable {X : Cx} {G : Ctx} {W : WX}
section
variable {K : PySem.W.Frag} {H0 H H' : Hp} {M0 A : AS} {env env' : Env} {σ : L2.St}
/-- one more place that is set apart -/
theorem EnvR.more (E : EnvR K H0 M0 A env σ H) {p : Addr} (s : Stp NoA H H') (hp : ¬ Lv H p) (h' : Lv H' p) : EnvR K H0 (fun a => M0 a ∨ a = p) A env σ H' := by
  have st : Stp (MM (fun a => M0 a ∨ a = p) env σ) H H' := s.weak fun _ z => z.elim
  have gr : ∀ x, MM (fun a => M0 a ∨ a = p) env σ x → MM M0 env σ x ∨ ¬ Lv H x := fun x z => z.elim (fun z => z.elim (fun z => .inl (.inl z)) (fun z => .inr (z ▸ hp))) (fun z => .inl (.inr z))
  refine ⟨E.len, fun a o h n t => s.st a o (E.old a o h n t) id t, fun a h => s.mo a (E.alive a h), fun P q h => s.tb P q h (E.tb P q h), fun a h => h.elim (fun z => s.mo a (E.m0 a z)) (fun z => z ▸ h'), fun a h => .inl (E.aM a h), E.a1, fun i d h => ?_, fun i ds h => ?_, fun i ds h => ?_, E.inj, E.io1, E.slf⟩
  · obtain ⟨v, a1, a2⟩ := E.dat i d h
    exact ⟨v, a1, Rep.stp st (fun _ z => z) d v (Rep.grow gr d v a2)⟩
  · obtain ⟨a, xs, a1, a2, a3, a4, a5⟩ := E.own i ds h
    exact ⟨a, xs, a1, s.st a _ a2 id nt_lst, RepL.stp st (fun _ z => z) ds xs (RepL.grow gr ds xs a3), fun z => z.elim a4 fun z => hp (z ▸ Lv.lst a2), a5⟩
  · obtain ⟨a, xs, a1, a2, a3, a4⟩ := E.io i ds h
    exact ⟨a, xs, a1, a2, s.st a _ a3 id nt_lst, RepL.stp st (fun _ z => z) ds xs (RepL.grow gr ds xs a4)⟩
/-- it is set apart no more, and may have been changed -/
theorem EnvR.drop {p : Addr} (E : EnvR K H0 (fun a => M0 a ∨ a = p) A env σ H) (hA : ∀ a, A a → M0 a) (h0 : ¬ Lv H0 p) (hn : ¬ A p) (s : Stp (fun a => a = p) H H') : EnvR K H0 M0 A env σ H' := by
  have st : Stp (MM (fun a => M0 a ∨ a = p) env σ) H H' := s.weak fun _ z => .inl (.inr z)
  have le : ∀ x, MM M0 env σ x → MM (fun a => M0 a ∨ a = p) env σ x := fun x z => z.elim (fun z => .inl (.inl z)) .inr
  refine ⟨E.len, fun a o h n t => s.st a o (E.old a o h n t) (fun z => h0 (z ▸ ⟨o, h, t⟩)) t, fun a h => s.mo a (E.alive a h), fun P q h => s.tb P q h (E.tb P q h), fun a h => s.mo a (E.m0 a (.inl h)), hA, E.a1, fun i d h => ?_, fun i ds h => ?_, fun i ds h => ?_, E.inj, E.io1, E.slf⟩
  · obtain ⟨v, a1, a2⟩ := E.dat i d h
    exact ⟨v, a1, Rep.stp st le d v a2⟩
  · obtain ⟨a, xs, a1, a2, a3, a4, a5⟩ := E.own i ds h
    exact ⟨a, xs, a1, s.st a _ a2 (fun z => a4 (.inr z)) nt_lst, RepL.stp st le ds xs a3, fun z => a4 (.inl z), a5⟩
  · obtain ⟨a, xs, a1, a2, a3, a4⟩ := E.io i ds h
    exact ⟨a, xs, a1, a2, s.st a _ a3 (fun z => hn (z ▸ a2)) nt_lst, RepL.stp st le ds xs a4⟩
theorem Sat.more {α : Type} {W : WX} {r : R α} {P : α → Env → Hp → Prop} {H1 : Hp} {p : Addr} (E : EnvR K H0 M0 A env σ H) (h0 : ¬ Lv H0 p) (hn : ¬ A p) (s0 : Stp NoA H H1) (q : Sat K H0 M0 A W r env σ H P) :
    Sat K H0 (fun a => M0 a ∨ a = p) A W r env σ H1 fun x e1 H2 => EnvR K H0 (fun a => M0 a ∨ a = p) A e1 σ H2 ∧ Stp (WW A env σ) H1 H2 ∧ Sub σ env e1 ∧ P x e1 H2 := by
  cases r with
  | bad => exact q
  | ok x e1 => exact fun H2 s u E2 => ⟨E2, s, u, q H2 (s0.no.trans s) u (E2.drop E.aM h0 hn Stp.refl)⟩
  | exc C f d e1 => exact fun dd v H2 s u E2 hd rd => q dd v H2 (s0.no.trans s) u (E2.drop E.aM h0 hn Stp.refl) hd (Rep.stp Stp.refl (fun x z => z.elim (fun z => .inl (.inl z)) .inr) d v rd)
end
end
end Mp
set_option maxHeartbeats 4000000
namespace Mp
open PySem PySem.Spec PyProof.Rows L2
variable [TabsW] [GdW]
section
variable {X : Cx} {G : Ctx} {W : WX} {pos : Pos}
theorem xgs {x : Str} {n : Str} {t : Tok} (hm : X.mg x = some (.str n t)) (hg : Gl X x) (hd : (x == ("__debug__" : Str)) = false) : PE X (.Name x pos) (tI G W X.K (.c (.str n))) := e_c (v := .str n) (pe_glob hg hm ⟨_, rfl⟩ hd) fun _ _ => rep_str _
end
def THeardN (K : PySem.W.Frag) (w : Str) (cs : List HC) : (XK → Hp → VK → Prop) → Hp → VK → Prop := fun tl H Q => tl (fun cls d H' => wHC K cs cls d H' Q) H (fun _ H' => [V.str w].length ≤ sizeLine ∧ ∀ l, H' l = none → Q (.ref l) (upd H' l (.lst [V.str w])))
section
variable {X : Cx}
/-- try: call() / except .. as e: return .. / return ["word"] -/
theorem heard_givesN {cs : List HC} {Ng : List Str} {x a e q w : Str} {sg : Scope} {g : Addr} {cdg : Value} {j : Nat} {i : Nat} {e0 : ExceptHandler} {es : List ExceptHandler} {p1 p2 p3 p5 p6 p7 p8 : Pos}
    (nd : Ng.Nodup) (ni : Ng[i]? = some e) (kl : sg.names.lookup e = some .local) (h0 : ∀ f : Addr, (L2.start Ng [V.ref f])[0]? = some (some (V.ref f)))
    (ok : ∀ (s : Shared) (H : Hp), ClsOk (cxOf C8.CX0 X.prog X.w X.K X.mg X.base Ng x sg g cdg X.A X.stack s H C8.E0).nox e (e0 :: es) (cs.map (clOf X.K i))) :
    LamX.GivesTo X Ng x sg g cdg [.Try [.Expr (.Call (.Name a p1) [] [] p2) p3] (e0 :: es) [] [] p8, .Return (some (.List [.Constant (.str w) j p5] p7)) p6] a q (THeardN X.K w cs) := by
  intro f c' s H Q tl act hc h
  have st := ps_try_cls (X := (cxOf C8.CX0 X.prog X.w X.K X.mg X.base Ng x sg g cdg X.A X.stack s H C8.E0).nox) (n := e) (i := i) (pos := p8) (l := cs.map (clOf X.K i)) (body := [.Expr (.Call (.Name a p1) [] [] p2) p3])
      (tb := fun W D σ H => ∃ Ech : XK, (∀ cls d σ' H', Ech cls d H' → W cls d σ' H') ∧ σ[0]? = some (some (.ref f)) ∧ H c' = some (LamX.CodeO c' q) ∧ tl Ech H fun _ H' => D.nx σ H')
      rfl rfl nd ni kl (fun W pn xe tk _ => by
        refine ⟨fun pins s' σ H' D I h' => ?_⟩
        obtain ⟨Ech, hW, h1, h2, h3⟩ := h'
        have hp := act W pn xe Ech p1 p2 tk hW
        exact (pss_one (ps_expr (pos := p3) hp)).run pins s' σ H' D I ⟨h1, h2, h3⟩) (ok s H)
  refine ⟨_, pss_cons st (pss_one (ps_ret (pos := p6) (pe_lst (pos := p7) (pa_cons (pe_str (x := w) (j := j) (pos := p5)) pa_nil)))), ?_⟩
  refine ⟨fun cls d H' => wHC X.K cs cls d H' Q, fun cls d σ' H' hw => wHC_cls hw, h0 f, hc, ?_⟩
  exact h
end
theorem heardN_read {K : PySem.W.Frag} {G : Ctx} {W : WX} {w : Str} {cs : List HC} (F : ClsFacts K cs) {i : IR} {σ : L2.St} {H : Hp} {Q : VK} (q : tI G W K (.heardN w cs i) σ H Q) :
    LamX.tLam TabsW.T (THeardN K w cs) (fun E => tI G (fun cls d _ H' => E cls d H') K i) σ H Q := by
  obtain ⟨H0, M0, A, env, E, q⟩ := q
  rw [ev] at q
  refine ⟨fun p hp => E.tb p.1 p.2 hp, fun H1 e1 t1 => ?_⟩
  have s0 : Stp NoA H H1 := stp_ext e1 t1
  have E1 := E.keep s0
  refine ⟨H0, M0, A, env, E1, ?_⟩
  cases h : ev G i env with
  | bad => rw [h] at q; exact q.elim
  | ok o e2 =>
    rw [h] at q
    intro H' s u E' v hv
    have hz : sizeLine = 16777216 := sizeLine_eq
    refine ⟨by show 1 ≤ sizeLine; omega, fun l hl => ?_⟩
    exact q _ ((s0.no.trans s).trans (Stp.new hl)) u (E'.new hl) (.ref l) (rep_new hl (E'.fresh hl).1 (RepL.cons (by unfold Rep; rfl) RepL.nil))
  | exc C f d e2 =>
    rw [h] at q
    dsimp only at q
    cases hx : hear cs C f d with
    | none => rw [hx] at q; exact q.elim
    | some x =>
      rw [hx] at q
      intro dd v H' s u E' hd rd
      obtain ⟨c0, m0, e0, _⟩ := hear_mem hx
      refine hear_said F m0 e0 hd rd (fun l xs ds ex hl rr => ?_) (fun _ z => z) hx
      subst ex
      exact q _ ((s0.no.trans s).trans (Stp.new hl)) u (E'.new hl) (.ref l) (rep_new hl (E'.fresh hl).1 rr)
section
variable {X : Cx} {G : Ctx} {W : WX}
theorem e_hrdN {cs : List HC} {i : IR} {x a q w : Str} {g c P : Addr} {k : Nat} {st : Stmt} {cdv : Value} {Ng : List Str} {fd : FuncData} {params : Arguments} {body : Expr} {scope : Scope} {p lpos pos : Pos} (EF : ClsFacts X.K cs) (HF : HrdF X.K X.mg x st a g cdv) (Sg : FnScope Ng [a] (defScope st)) (hNg : Ng[0]? = some a) (hva : Vis (defScope st) a)
    (hG : LamX.GivesTo X Ng x (defScope st) g cdv (defBody st) a (X.env.qual ++ "<lambda>") (THeardN X.K w cs)) (T : LamT X.base X.mg fd q c P) (hq : X.env.qual = q) (hcode : X.env.code = .ref c) (hr : L2.Room (k + 2) X.A) (hg : Gl X x) (L : LamX.LamS X.env.scope scope) (hdef : defaultsOf params X.env = ([], []))
    (hbind : ∀ (q : Str) (cl : List (Str × Addr)) (pm cv ctv : Value), bindArgs (PySem.W.kla_fn "<lambda>" q params body scope cl pm cv ctv) ⟨[], []⟩ = pure [])
    (hbody : ∀ (A : Around) (outer : List PySem.Env) (s : Shared) (H : Hp) (E : XK) (f c' : Addr), L2.Room k (A.deeper (LamX.lamEnv X scope s.heap.objs.size f c')) → PE (LamX.lamCx X A outer s H E scope f c') body (tI G (fun cls d _ H' => E cls d H') X.K i))
    (hdb : (x == ("__debug__" : Str)) = false) (hd : (a == ("__debug__" : Str)) = false) (hcd : (a == ("__classdict__" : Str)) = false) : PE X (.Call (.Name x p) [.Lambda params body scope lpos] [] pos) (tI G W X.K (.heardN w cs i)) := by
  obtain ⟨dV, kV, doc, pm, ct, oc, an, od, osl, lk, hb⟩ := HF.ex
  subst hq
  exact PE.by_ (LamX.pe_lamcall hg HF.mg HF.kp lk HF.cd hb Sg hNg hva hG T.tb hcode T.mem T.one hr L hdef hbind hbody hdb hd hcd) fun σ H Q q => heardN_read EF q
end
theorem mkSK {CX : CXT} {k : Nat} {C f : Addr} {fd : FuncData} {ps ks : List Str} {sp : Sp} {g : List Value → List Value → List Value} {gV : List V → List V → List V} {X : Cx} {T : L2.St → XK} {pins : List (Addr × Obj)} {τ : L2.St} {H : Hp} {s : Shared} {Q : VK} {ws : List Value} {zs : List V}
    (M : Mk X.K C f) (F : FnOk X.prog X.w X.K X.mg X.base CX k f fd ps sp) (room : Room (k + 1) X.A) (kb : KBn X.K fd ps 1 ks g gV) (pa : PassesAt CX X τ (T τ)) (I : Inv X pins τ H s) (r : Vals zs ws) (l2 : zs.length = ks.length)
    (h : ∀ o d, H o = none → H d = none → d ≠ o → sp (gV [.ref o] zs) (upd (upd H d (.own o)) o (.ins C d [])) (fun v H2 => v = .non ∧ Q (.ref o) H2) (T τ)) : wpAny (model X.prog X.w) X.A (call (.ref C) [] (ks.zip ws)) (EP X pins τ Q) X.xe s := by
  have sz := s.heap.objs.size
  have want := h (s.heap.objs.size + 1) s.heap.objs.size (I.hok.fresh (Nat.le_succ _)) (I.hok.fresh (Nat.le_refl _)) (Nat.ne_of_lt (Nat.lt_succ_self _))
  have J := Inv.made (C := C) I
  have r1 : Vals [V.ref (s.heap.objs.size + 1)] [Value.ref (s.heap.objs.size + 1)] := .cons rfl .nil
  have rr := kb.rel r1 r
  have bound := kb.to _ [Value.ref (s.heap.objs.size + 1)] ws J.kIn rfl (by rw [← r.length, l2])
  refine wpAny_call (make_map (f := f) I.kIn M.makes M.init (beq_iff_eq.mp M.fn) (codeAny_mono (F.go _ X.stack _ _ ⟨[Value.ref (s.heap.objs.size + 1)], ks.zip ws⟩ _ _ _ (T τ) (room.make C [] (ks.zip ws)) (J.env0.make C [] (ks.zip ws)) bound rr want) fun res s' got => ?_))
  match res, got with
  | .error e, got => exact pa pins _ _ e s' J got
  | .ok (.ret u), got =>
    obtain ⟨v, H', J', rv, ev, q⟩ := J.after got
    cases ev
    exact ⟨rv, V.ref (s.heap.objs.size + 1), H', J', rfl, q⟩
  | .ok .next, got => exact got.elim
  | .ok .brk, got => exact got.elim
  | .ok .cont, got => exact got.elim
/-- a class that is called with the keywords ks -/
structure MkKF (P : Program) (w : World) (K : PySem.W.Frag) (mg : Str → Option Value) (base : Heap) (k : Nat) (x : Str) (m : Mkr) (ks : List Str) : Prop where
  dbg : (x == ("__debug__" : Str)) = false
  ex : ∃ (a : Addr) (fd : FuncData) (ps : List Str) (sp : Sp) (g : List Value → List Value → List Value) (gV : List V → List V → List V), mg x = some (.ref (clsAt K m.C)) ∧ Mk K (clsAt K m.C) a ∧ FnOk P w K mg base (L2.CX P w) k a fd ps sp ∧ KBn K fd ps 1 ks g gV ∧
    ∀ v zs H Q E, zs.length = ks.length → spMk K m.C m.n m.ns m.sem (v :: zs) H Q E → sp (gV [v] zs) H Q E
section
variable {X : Cx} {G : Ctx} {W : WX}
theorem e_makek {k j : Nat} {m : Mkr} {x : Str} {ks : List Str} {kws : List Keyword} {js : List IR} {p pos : Pos} (F : MkKF X.prog X.w X.K X.mg X.base k x m ks) (hj : G.mks[j]? = some m) (hr : Room (k + 1) X.A) (tk : Takes X W) (hg : Gl X x) (hkw : PK X kws (tIs G W X.K js)) (hm : js.length = ks.length)
    (hall : (backToKw pos (keywordEach kws X.env)).all (·.1.isSome) = true) (hks : (backToKw pos (keywordEach kws X.env)).filterMap (·.1) = ks) (hpl : ((backTo pos (starEach [] X.env)).any (·.1) || (backToKw pos (keywordEach kws X.env)).any (·.1.isNone)) = false) :
    PE X (.Call (.Name x p) [] kws pos) (tI G W X.K (.make j js)) := by
  obtain ⟨a, fd, ps, sp, g, gV, hmg, hk, ok, kb, hs⟩ := F.ex
  refine ⟨fun pins s σ H Q I h => ?_⟩
  refine wpAny_Call_Name_kw (ld_glob I hg hmg ?_ F.dbg)
  have hmn : m.n = js.length := by
    obtain ⟨H0, M0, A, env, E, q⟩ := h
    rw [ev, hj] at q
    dsimp only at q
    by_cases hl : js.length = m.n
    · exact hl.symm
    · rw [if_neg hl] at q; exact q.elim
  refine PySem.W.callWith_KW0 (h₀ := X.base) I.ok.mod.kin hk.kp hall (thn (hkw.run pos pins s σ H _ I (make_read hj h)) fun ws s2 ⟨zs, H2, I2, rz, q2⟩ => ⟨I2.kIn, ?_⟩) hpl
  rw [hks]
  have l2 : zs.length = ks.length := by
    have := q2 (s2.heap.objs.size + 1) s2.heap.objs.size (I2.hok.fresh (Nat.le_succ _)) (I2.hok.fresh (Nat.le_refl _)) (Nat.ne_of_lt (Nat.lt_succ_self _))
    obtain ⟨_, _, _, _, rest, _, e, e2, _⟩ := this
    cases e
    rw [e2, hmn, hm]
  exact mkSK (T := WE W) hk ok hr kb (passAt tk σ) I2 rz l2 fun o d ho hd' hne => hs _ _ _ _ _ l2 (q2 o d ho hd' hne)
end
def permP {α : Type} : List α → List α
  | [n, e, h, l] => [n, h, l, e]
  | x => x
theorem four {α : Type} {l : List α} (h : l.length = 4) : ∃ a b c d, l = [a, b, c, d] := by
  match l, h with
  | [a, b, c, d], _ => exact ⟨a, b, c, d, rfl⟩
theorem kb_perm {K : PySem.W.Frag} {x qual : Str} {params : Arguments} {body : List Stmt} {scope : Scope} {dvs : List V} {kws : List (Str × V)} {f : Addr} {fd : FuncData} {ps ks : List Str} (F : FunD K x qual params body scope dvs kws f fd) (hd : dvs ≠ []) (hk : ks.length = 4)
    (h : ∀ (T : Addr) (kV doc pm : Value) (an : Option Addr) (cdv ct : Value) (us its ws : List Value), us.length = 1 → its.length = dvs.length → ws.length = 4 →
      ∃ k, bindArgs (PySem.W.fnOf x qual params body scope (.ref T) kV doc pm an cdv ct) ⟨us, ks.zip ws⟩ = seqItems? (.ref T) >>= k ∧ k (some its.toArray) = pure (ps.zip (us ++ permP ws))) : KBn K fd ps 1 ks (fun us ws => us ++ permP ws) (fun vs zs => if zs.length = 4 then vs ++ permP zs else vs ++ zs) := by
  obtain ⟨oc, od, dV, kV, doc, pm, an, cdv, ct, osl, rfl, lk, hcd, hD, hK⟩ := F.ex
  rcases hD with ⟨e, _⟩ | ⟨_, T, o, its, m, rfl, lT, oT, rT⟩
  · exact absurd e hd
  · refine ⟨fun s us ws X l1 l2 => ?_, fun {vs us zs ws} r1 r2 => ?_⟩
    · obtain ⟨k, e1, e2⟩ := h T kV doc pm an cdv ct us its ws l1 rT.length.symm (l2.trans hk)
      refine BindsTo.of_looks fun M => ?_
      rw [e1]
      exact looks_items X lT oT (.of_pure e2)
    · have hl := r2.length
      by_cases h4 : zs.length = 4
      · obtain ⟨a, b, c, d, rfl⟩ := four h4
        obtain ⟨a', b', c', d', rfl⟩ := four (hl.symm.trans h4)
        have e4 : (if [a, b, c, d].length = 4 then vs ++ permP [a, b, c, d] else vs ++ [a, b, c, d]) = vs ++ [a, c, d, b] := if_pos rfl
        show Vals (if [a, b, c, d].length = 4 then vs ++ permP [a, b, c, d] else vs ++ [a, b, c, d]) (us ++ [a', c', d', b'])
        rw [e4]
        cases r2 with
        | cons ra r2 => cases r2 with
          | cons rb r2 => cases r2 with
            | cons rc r2 => cases r2 with
              | cons rd r2 => exact r1.append (.cons ra (.cons rc (.cons rd (.cons rb .nil))))
      · have e4 : (if zs.length = 4 then vs ++ permP zs else vs ++ zs) = vs ++ zs := if_neg h4
        show Vals (if zs.length = 4 then vs ++ permP zs else vs ++ zs) (us ++ permP ws)
        rw [e4]
        refine r1.append ?_
        have : permP ws = ws := by
          unfold permP
          split
          · rw [hl] at h4; exact absurd rfl h4
          · rfl
        rw [this]; exact r2
theorem mkK_perm {P : Program} {w : World} {K : PySem.W.Frag} {mg : Str → Option Value} {base : Heap} {k : Nat} {x C : Str} {a : Addr} {fd : FuncData} {ps ks ns : List Str} {sem : List D → FR} (hd : (x == ("__debug__" : Str)) = false) (hm : mg x = some (.ref (clsAt K C))) (M : Mk K (clsAt K C) a)
    (ok : FnOk P w K mg base (L2.CX P w) k a fd ps (spMk K C 4 ns sem)) (hk : ks.length = 4) (hb : KBn K fd ps 1 ks (fun us ws => us ++ permP ws) (fun vs zs => if zs.length = 4 then vs ++ permP zs else vs ++ zs)) : MkKF P w K mg base k x ⟨C, 4, ns, fun ds => sem (permP ds)⟩ ks := by
  refine ⟨hd, a, fd, ps, _, _, _, hm, M, ok, hb, fun v zs H Q E hz h => ?_⟩
  rw [hk] at hz
  show spMk K C 4 ns sem (if zs.length = 4 then [v] ++ permP zs else [v] ++ zs) H Q E
  rw [if_pos hz]
  obtain ⟨MM, ds, b, dx, rest, h1, e, h2, h3, h4, h5, h6⟩ := h
  cases e
  obtain ⟨p, q, r, s, rfl⟩ := four hz
  obtain ⟨p', q', r', s', rfl⟩ := four (h5.length.trans hz)
  refine ⟨MM, permP [p', q', r', s'], b, dx, permP [p, q, r, s], h1, rfl, rfl, h3, h4, ?_, h6⟩
  unfold RepL at h5
  obtain ⟨_, _, e1, f1, h5⟩ := h5
  cases e1
  unfold RepL at h5
  obtain ⟨_, _, e1, f2, h5⟩ := h5
  cases e1
  unfold RepL at h5
  obtain ⟨_, _, e1, f3, h5⟩ := h5
  cases e1
  unfold RepL at h5
  obtain ⟨_, _, e1, f4, h5⟩ := h5
  cases e1
  exact RepL.cons f1 (RepL.cons f3 (RepL.cons f4 (RepL.cons f2 RepL.nil)))
end Mp
set_option maxHeartbeats 4000000
namespace Mp
/-- at most a minute -/
def atM (m : Option Nat) (y : Nat) : Prop := ∃ a, m = some a ∧ a ≤ y
instance (m : Option Nat) (y : Nat) : Decidable (atM m y) := match m with
  | none => .isFalse (by rintro ⟨a, h, _⟩; cases h)
  | some a => if h : a ≤ y then .isTrue ⟨a, rfl, h⟩ else .isFalse (by rintro ⟨b, h1, h2⟩; cases h1; exact h h2)
def leM (a b : Option Nat) : Prop := ∀ y, atM b y → atM a y
theorem leM.rfl' (a : Option Nat) : leM a a := fun _ h => h
theorem leM.tr {a b c : Option Nat} (h : leM a b) (k : leM b c) : leM a c := fun y z => h y (k y z)
inductive LeL : List (Option Nat) → List (Option Nat) → Prop where
  | nil : LeL [] []
  | cons {a b as bs} : leM a b → LeL as bs → LeL (a :: as) (b :: bs)
theorem LeL.len {as bs} (h : LeL as bs) : as.length = bs.length := by
  induction h with
  | nil => rfl
  | cons _ _ ih => simp [ih]
abbrev Row := List (Option Nat × Option Nat)
inductive RowLe : Row → Row → Prop where
  | nil : RowLe [] []
  | cons {p q r s} : leM p.1 q.1 → leM p.2 q.2 → RowLe r s → RowLe (p :: r) (q :: s)
theorem RowLe.len {r s} (h : RowLe r s) : r.length = s.length := by
  induction h with
  | nil => rfl
  | cons _ _ _ ih => simp [ih]
theorem RowLe.app {r s p q} (h : RowLe r s) (h1 : leM p.1 q.1) (h2 : leM p.2 q.2) : RowLe (r ++ [p]) (s ++ [q]) := by
  induction h with
  | nil => exact .cons h1 h2 .nil
  | cons a b _ ih => exact .cons a b ih
theorem RowLe.last {r s} (h : RowLe r s) : (r = [] ∧ s = []) ∨ ∃ p q, r.getLast? = some p ∧ s.getLast? = some q ∧ leM p.1 q.1 ∧ leM p.2 q.2 := by
  induction h with
  | nil => exact .inl ⟨rfl, rfl⟩
  | @cons p q r s a b h ih =>
    refine .inr ?_
    rcases ih with ⟨rfl, rfl⟩ | ⟨p', q', e1, e2, k⟩
    · exact ⟨p, q, rfl, rfl, a, b⟩
    · refine ⟨p', q', ?_, ?_, k⟩
      · rw [List.getLast?_cons, e1]; rfl
      · rw [List.getLast?_cons, e2]; rfl
inductive LeP : List (Option Nat × Nat) → List (Option Nat × Nat) → Prop where
  | nil : LeP [] []
  | cons {p q r s} : leM p.1 q.1 → p.2 ≤ q.2 → LeP r s → LeP (p :: r) (q :: s)
theorem LeP.zip : ∀ {as bs} (_ : LeL as bs) {ns ms : List Nat} (_ : ns.length = ms.length) (_ : ∀ (i : Nat) (a b : Nat), ns[i]? = some a → ms[i]? = some b → a ≤ b), LeP (as.zip ns) (bs.zip ms)
  | _, _, .nil, _, _, _, _ => .nil
  | _, _, .cons _ _, [], [], _, _ => .nil
  | _, _, .cons h1 h2, n :: ns, m :: ms, hl, h => .cons h1 (h 0 n m rfl rfl) (LeP.zip h2 (by simpa using hl) fun i a b x y => h (i + 1) a b x y)
  | _, _, .cons _ _, [], _ :: _, hl, _ => by cases hl
  | _, _, .cons _ _, _ :: _, [], hl, _ => by cases hl
theorem LeL.get {as bs} (h : LeL as bs) : ∀ p : Nat, leM ((as[p]?).getD none) ((bs[p]?).getD none) := by
  induction h with
  | nil => exact fun p => leM.rfl' _
  | cons h1 h2 ih => intro p; cases p with
    | zero => exact h1
    | succ p => exact ih p
end Mp
set_option maxHeartbeats 2000000
namespace PySem
namespace ErrBadPart
open PySem.W PySem.Calls PyProof.Rows PySem.HandSPX
def iA (p1 p2 : Pos) : Arguments := { posonlyargs := [], args := [{ arg := "self", annotation := none, pos := p1 }, { arg := "part", annotation := none, pos := p2 }], vararg := none, kwonlyargs := [], kw_defaults := [], kwarg := none, defaults := [] }
def iB (q1 q2 q3 q4 : Pos) : List Stmt := [.Assign [.Attribute (.Name "self" q1) "part" q2] (.Name "part" q3) q4]
def iS : Scope := { kind := .function, names := [(PySem.Str.ofString "self", .local), (PySem.Str.ofString "part", .local)], isGenerator := false, isCoroutine := false, more := [] }
/-- what the written part says of Low, at C, and of its __init__, at fI -/
structure LowTxt (K : Frag) (mg : Str → Option Value) (C fI : Addr) : Prop where
  gC : mg "BadPart" = some (.ref C)
  cls : ∃ nm q N bs bm sn sub ab col dd k0 k1 k2 k3 k5, K.lookup C = some (excClassObj nm q C N bs bm true sn sub ab col dd k0 k1 k2 k3 k5 "ValueError.__new__") ∧ refsVE bm = true
  sa : findIn K (.ref C) "__setattr__" = some (some (.builtin "object.__setattr__"))
  ga : findIn K (.ref C) "__getattribute__" = some (some (.builtin "BaseException.__getattribute__"))
  gg : findIn K (.ref C) "__getattr__" = some none
  noN : findIn K (.ref C) "part" = some none
  iC : findIn K (.ref C) "__init__" = some (some (.ref fI))
  tC : typeIn K (.ref fI) = some (.type "function")
  kC : keepIn K (.ref C) = true
  exC : subIn K (.ref C) (.type "BaseException") = some true
  tyC : typeIn K (.ref C) = some (.type "type")
  hdC : hasDictIn K C = true
  te : exmOne K (.ref C) (.ref C) = some true
  fn : ∃ (oc : Value) (od : Option Addr) (doc pm : Value) (an : Option Addr) (cdv ct : Value) (osl : Array (Option Value)) (p1 p2 q1 q2 q3 q4 : Pos),
    K.lookup fI = some ⟨oc, od, .func (fnOf "__init__" "BadPart.__init__" (iA p1 p2) (iB q1 q2 q3 q4) iS .none .none doc pm an cdv ct), osl⟩ ∧ codeIn K cdv "BadPart.__init__" = true
theorem one_size (v : Value) : [v].length ≤ sizeLine := by
  rw [sizeLine_eq]
  exact (by decide : 1 ≤ 16777216)
theorem ldC {M : Model} {s : Shared} {name : Str} {scope : Scope} {L a : Addr} {cd : Value} {m : Str → Option Value} {x : Str} {pos : Pos} {v : Value} {Q : Value → Shared → Prop} {A : Around} {E : Value → Shared → Prop} (hn : s.heap.Ns L m) (hv : m x = some v) (h : Q v s)
    (hk : scope.kind = .function := by rfl) (hl : (envOfC name scope L a cd).kindOf x = some .local := by rfl) (hd : (x == ("__debug__" : Str)) = false := by decide) :
    wpAny M A (eval (.Name x pos) (envOfC name scope L a cd)) Q E s := wpAny_Name (wpAny_loadName_local hk hl hn hv h) hd
/-- what __init__ leaves of a fresh exception at x -/
structure InitEnd (h h' : Heap) (x C dx t1 : Addr) (v : Value) : Prop where
  keep : ∀ b o, b ≠ x → h.get? b = some o → h'.get? b = some o
  obj : h'.get? x = some { cls := .ref C, dict := some dx, data := .fields #[.ref t1, .none, .none, .none, .bool false, .none] }
  dbig : h.objs.size ≤ dx
  dne : dx ≠ x
  ns : h'.Ns1 dx (fun y => if y = "part" then some v else none)
/-- a made Low -/
structure OwnMade (h h' : Heap) (e C d : Addr) (v : Value) : Prop where
  keep : ∀ b o, h.get? b = some o → h'.get? b = some o
  new : h.objs.size ≤ e
  obj : ∃ oe vs, h'.get? e = some oe ∧ oe.cls = .ref C ∧ oe.dict = some d ∧ oe.data = .fields vs ∧ vs[1]? = some .none
  dbig : h.objs.size ≤ d
  dne : d ≠ e
  ns : h'.Ns1 d (fun y => if y = "part" then some v else none)
section
variable {prog : Program} {w : World} {A : Around} {E : Value → Shared → Prop} {R : Result → Shared → Prop} {s : Shared} {K : Frag} {mg : Str → Option Value} {C fI : Addr}
theorem low_init (T : LowTxt K mg C fI) {x t0 : Addr} {v : Value} (X : K.In s.heap) (hlim : s.heap.NoLimit) (hx : s.heap.get? x = some (excO C t0)) (hnx : K.lookup x = none) (hroom : A.depth < recursionLimit)
    (hq : ∀ h' tk dx, InitEnd s.heap h' x C dx t0 v → R (.ok (.ret .none)) { s with heap := h', toks := tk }) :
    codeAny (model prog w) A (.call (.ref fI) ⟨[.ref x, v], []⟩) R s := by
  obtain ⟨oc, od, doc, pm, an, cdv, ct, osl, p1, p2, q1, q2, q3, q4, ho, hcd⟩ := T.fn
  obtain ⟨nm, q, N, bs, bm, sn, sub, ab, col, dd, k0, k1, k2, k3, k5, hC, hbm⟩ := T.cls
  have hcl : clsIn K C = some { name := nm, bases := bs, mro := .ref C :: bm, ns := N, qualname := q, hasDict := true, slotNames := sn, subclasses := sub, abstract := ab, collection := col, hasDel := false } := by unfold clsIn; rw [hC] <;> rfl
  refine Att.call_fn (binds := [("self", .ref x), ("part", v)]) X hlim ho hcd hroom (BindsTo.of_eq (by first | rfl | with_unfolding_all rfl)) (by first | rfl | decide | with_unfolding_all rfl) (fun s₁ IC => ?_) rfl rfl rfl
  obtain ⟨h₁, tk₁, rfl⟩ := IC.toInCall.same
  have k : ∀ b o, s.heap.get? b = some o → h₁.get? b = some o := IC.toInCall.keep
  have hn := IC.toInCall.ns
  have hxL : s.heap.objs.size ≠ x := Nat.ne_of_gt (Heap.lt_size hx)
  have X₁ : K.In h₁ := X.keeps k
  have hx₁ := k _ _ hx
  -- self.by = by
  show wpAny _ _ (execs _ _) _ _ _
  refine wpAny_execs_cons (plainObj_wpAny_Assign_Attribute ?_)
  refine ldC (v := v) hn (by first | rfl | with_unfolding_all rfl | kernel_rfl) (ldC (v := .ref x) hn (by first | rfl | with_unfolding_all rfl | kernel_rfl) ?_)
  refine set_plain X₁ (ox := excO C t0) (od := none) ⟨hx₁, rfl, rfl, trivial⟩ T.sa ?_
  refine exc_osa X₁ hx₁ hcl (show refsVE (.ref C :: bm) = true from hbm) rfl T.noN (fun h₃ tk₃ dx k₃ dn dne hx₃ hn₃ => ?_)
  show wpAny _ _ (execs _ _) _ _ _
  have z : s.heap.objs.size < h₁.objs.size := hn.lt
  exact wpAny_execs_nil (hq h₃ tk₃ dx ⟨fun b o hb e => k₃ b o hb (k b o e), hx₃, Nat.le_of_lt (Nat.lt_of_lt_of_le z dn), dne, hn₃⟩)
theorem low_made (T : LowTxt K mg C fI) {v : Value} (X : K.In s.heap) (hlim : s.heap.NoLimit) (hroom : A.depth + 1 < recursionLimit)
    (hq : ∀ h' tk e d, OwnMade s.heap h' e C d v → R (.ok (.ret (.ref e))) { s with heap := h', toks := tk }) :
    codeAny (model prog w) A (.call (.ref C) ⟨[v], []⟩) R s := by
  obtain ⟨nm, q, N, bs, bm, sn, sub, ab, col, dd, k0, k1, k2, k3, k5, hC, hbm⟩ := T.cls
  obtain ⟨hp, g, dr, tk, os⟩ := s
  have k : ∀ b o, hp.get? b = some o → ((hp.push (kdv_tup [v])).push (excO C hp.objs.size)).get? b = some o := fun b o e => Heap.get?_push_of_some _ (Heap.get?_push_of_some _ e)
  have hget : ((hp.push (kdv_tup [v])).push (excO C hp.objs.size)).get? (hp.objs.size + 1) = some (excO C hp.objs.size) := by heap_get
  have hnx : K.lookup (hp.objs.size + 1) = none := by
    cases e : K.lookup (hp.objs.size + 1) with
    | none => rfl
    | some o =>
      have z : hp.get? (hp.objs.size + 1) = some o := X _ _ e
      exact absurd (Nat.lt_of_succ_lt (Heap.lt_size z)) (Nat.lt_irrefl _)
  refine call_own F.excBase_ValueError (fun X => refsVE_contains X bm hbm) (X _ _ hC) (looks_findIn X T.iC) (fun self => bind_fn X self T.tC) (one_size v) ?_
  refine low_init (s := ⟨(hp.push (kdv_tup [v])).push (excO C hp.objs.size), g, dr, tk, os⟩) T (X.keeps k) (hlim.keeps k) hget hnx ?_ fun h' tk' dx ⟨k', hx, dn, dne, hns⟩ => ?_
  · show A.depth + 1 < recursionLimit
    exact hroom
  · have old : ∀ b o, hp.get? b = some o → h'.get? b = some o := fun b o e => k' b o (Nat.ne_of_lt (Nat.lt_succ_of_lt (Heap.lt_size e))) (k b o e)
    have z : hp.objs.size + 1 + 1 ≤ dx := by
      first
        | (simpa only [Heap.size_push] using dn)
        | exact dn
        | (have q := dn; rw [Heap.size_push, Heap.size_push] at q; exact q)
    exact ⟨rfl, hq h' tk' (hp.objs.size + 1) dx ⟨old, Nat.le_succ _, ⟨_, _, hx, rfl, rfl, rfl, rfl⟩, Nat.le_trans (Nat.le_trans (Nat.le_succ _) (Nat.le_succ _)) z, dne, hns⟩⟩
end
end ErrBadPart
end PySem
namespace L2
open PySem PySem.Spec PyProof.Rows
theorem relO_low_BadPart {v : V} {v' : Value} (r : RelV v v') (f : Str) : RelO (List.lookup f [(("part" : Str), v)]) (if f = "part" then some v' else none) := by
  by_cases hw : f = "part"
  · subst hw
    rw [if_pos rfl]
    have q : List.lookup ("part" : Str) [(("part" : Str), v)] = some v := by simp [List.lookup]
    rw [q]
    exact r
  · rw [if_neg hw]
    have qw : (f == ("part" : Str)) = false := by simpa using hw
    have q2 : List.lookup f [(("part" : Str), v)] = none := by simp [List.lookup, qw]
    rw [q2]
    trivial
section
variable {X : Cx} {C fI : Addr}
/-- Low(e) -/
def tMkLow_BadPart (C : Addr) (ta : TA) : St → Hp → XK → Prop := fun σ H Q => ta σ H fun vs H1 => ∃ v, vs = [v] ∧ ∀ d, H1 d = none → Q (.ref C) (some d) (upd H1 d (.xd [(("part" : Str), v)]))
theorem pmk_low_BadPart {a : Expr} {ta : TA} {p pos : Pos} {k : Nat} (T : PySem.ErrBadPart.LowTxt X.K X.mg C fI) (hr : Room k X.A) (ha : PA X [a] ta) (hg : Gl X "BadPart" := by rfl)
    (he : starEach (a :: []) X.env = (false, eval a X.env) :: starEach [] X.env := by rfl) (hpl : (backTo pos (starEach [] X.env)).any (·.1) = false := by rfl) :
    PMk X (.Call (.Name "BadPart" p) [a] [] pos) (tMkLow_BadPart C ta) := by
  intro pins s σ H Q I h
  refine wpAny_Call_Name_kw (ld_glob I hg T.gC ?_)
  refine PySem.W.callWith_K (h₀ := X.base) I.ok.mod.kin T.kC (thn (ha.run pos pins s σ H _ I h) fun us s1 hh => ?_) he hpl
  obtain ⟨vs, H1, I1, r1, v, ev, q1⟩ := hh
  subst ev
  refine ⟨I1.kIn, ?_⟩
  cases r1 with
  | cons rv rn =>
    rename_i v' us'
    cases rn
    show wpAny _ _ (call (.ref C) [v']) _ _ _
    have hlim := I1.nolimit
    obtain ⟨hp, g, dr, tk, os⟩ := s1
    refine wpAny_call (PySem.ErrBadPart.low_made T I1.kIn hlim (by have := hr.dp; omega) fun h' tk' e d M => ?_)
    show MkP X pins σ Q (.ref e) ⟨h', g, dr, tk', os⟩
    obtain ⟨oe, fv, hoe, hc, hd, hdat, h1⟩ := M.obj
    have hns := M.ns
    obtain ⟨G', g1, g2⟩ := restrict h' fun b => decide (b ≠ e)
    have gk : ∀ b, b ≠ e → G'.get? b = h'.get? b := fun b hb => g1 b (decide_eq_true hb)
    have ge : G'.get? e = none := g2 e (by simp)
    have old : ∀ b o, hp.get? b = some o → G'.get? b = some o := fun b o q => (gk b (Nat.ne_of_lt (Nat.lt_of_lt_of_le (Heap.lt_size q) M.new))).trans (M.keep b o q)
    have ob : ObjOk X.prog X.w (upd H1 d (.xd [(("part" : Str), v)])) G' d (.xd [(("part" : Str), v)]) :=
      ⟨_, hns.at (fun o q => (gk d M.dne).trans q), fun f => relO_low_BadPart rv f⟩
    have J : Inv X pins σ (upd H1 d (.xd [(("part" : Str), v)])) ⟨G', g, dr, tk', os⟩ := I1.laid (t' := tk') old M.dbig ob
    refine ⟨e, oe, fv, ⟨G', g, dr, tk', os⟩, _, .ref C, some d, rfl, J, fun b o q => ?_, ge, hoe, ⟨hc, hd⟩, hdat, h1, ?_, rfl, I1.bare, raises_own T.exC T.tyC, q1 d (I1.hok.fresh M.dbig)⟩
    · by_cases hb : b = e
      · have q' : G'.get? b = some o := q
        rw [hb, ge] at q'; cases q'
      · exact (gk b hb).symm.trans q
    · rw [upd_ne (Ne.symm M.dne)]
      exact I1.hok.fresh M.new
/-- raise Low(e) -/
def tRaiseLow_BadPart (C : Addr) (W : WX) (ta : TA) : TS := fun _ σ H => tMkLow_BadPart C ta σ H fun cls d H' => W cls d σ H'
theorem ps_raiseLow_BadPart {a : Expr} {ta : TA} {W : WX} {p pos pos2 : Pos} {k : Nat} (hc : X.calm = true) (T : PySem.ErrBadPart.LowTxt X.K X.mg C fI) (hr : Room k X.A) (tk : Takes X W) (ha : PA X [a] ta) (hg : Gl X "BadPart" := by rfl)
    (he : starEach (a :: []) X.env = (false, eval a X.env) :: starEach [] X.env := by rfl) (hpl : (backTo pos (starEach [] X.env)).any (·.1) = false := by rfl) :
    PS X (.Raise (some (.Call (.Name "BadPart" p) [a] [] pos)) none pos2) (tRaiseLow_BadPart C W ta) := ps_raise hc tk (pmk_low_BadPart T hr ha hg he hpl)
/-- low.by, low the exception that the suite holds (at a; its class cls, its dict d) -/
def tByLow_BadPart (C : Addr) (a : Addr) (cls : Value) (d : Option Addr) (te : TE) : TE := fun σ H Q => te σ H fun x H1 => x = .ref a ∧ cls = .ref C ∧ ∃ (dd : Addr) (v : V), d = some dd ∧ H1 dd = some (.xd [(("part" : Str), v)]) ∧ Q v H1
theorem pe_byLow_BadPart {a : Addr} {oe : Obj} {cls : Value} {d : Option Addr} {pn : List (Addr × Obj)} {e : Expr} {te : TE} {pos : Pos} (T : PySem.ErrBadPart.LowTxt X.K X.mg C fI) (hz : Zc cls d oe) (hf : ∃ vs, oe.data = .fields vs) (he : PE (X.suite a ((a, oe) :: pn)) e te)
    (hb : attributeBase e "part" X.env (eval e X.env) = eval e X.env := by rfl) :
    PE (X.suite a ((a, oe) :: pn)) (.Attribute e "part" pos) (tByLow_BadPart C a cls d te) := by
  refine ⟨fun pins s σ H Q I h => ?_⟩
  refine attr_of hb (thn (he.run pins s σ H _ I h) fun u s1 hh => ?_)
  obtain ⟨x, H1, I1, rx, ex, ec, dd, v, ed, ea, q⟩ := hh
  subst ex
  obtain rfl : u = Value.ref a := rx
  subst ec
  subst ed
  obtain ⟨ha, _⟩ := I1.pin (a, oe) (List.mem_append_left _ List.mem_cons_self)
  obtain ⟨vs, hd⟩ := hf
  have hx : ObjOk X.prog X.w H1 s1.heap dd (.xd [(("part" : Str), v)]) := I1.hok dd _ ea
  obtain ⟨mA, hns, hr⟩ := hx
  obtain ⟨od, ho, hl⟩ := lookIn_ns hns
  have l : List.lookup ("part" : Str) [(("part" : Str), v)] = some v := by simp [List.lookup]
  obtain ⟨u, hu, ru⟩ := RelO.some_of (v := v) (o := mA "part") (by rw [← l]; exact hr "part")
  have J : PySem.W.InstAt s1.heap a oe C (some od) := ⟨ha, hz.1, by unfold PySem.W.notCls; rw [hd] <;> rfl, by rw [hz.2]; exact ho⟩
  exact HandSPX.exc_get I1.kIn J T.ga T.gg T.exC (PySem.W.findObj_own T.hdC T.noN rfl (by rw [hl, hu])) (handed_of ru) ⟨v, H1, I1.tok _, ru, q⟩
end
end L2
namespace PySem
namespace ErrBadNumber
open PySem.W PySem.Calls PyProof.Rows PySem.HandSPX
def iA (p1 p2 : Pos) : Arguments := { posonlyargs := [], args := [{ arg := "self", annotation := none, pos := p1 }, { arg := "number", annotation := none, pos := p2 }], vararg := none, kwonlyargs := [], kw_defaults := [], kwarg := none, defaults := [] }
def iB (q1 q2 q3 q4 : Pos) : List Stmt := [.Assign [.Attribute (.Name "self" q1) "number" q2] (.Name "number" q3) q4]
def iS : Scope := { kind := .function, names := [(PySem.Str.ofString "self", .local), (PySem.Str.ofString "number", .local)], isGenerator := false, isCoroutine := false, more := [] }
/-- what the written part says of Low, at C, and of its __init__, at fI -/
structure LowTxt (K : Frag) (mg : Str → Option Value) (C fI : Addr) : Prop where
  gC : mg "BadNumber" = some (.ref C)
  cls : ∃ nm q N bs bm sn sub ab col dd k0 k1 k2 k3 k5, K.lookup C = some (excClassObj nm q C N bs bm true sn sub ab col dd k0 k1 k2 k3 k5 "ValueError.__new__") ∧ refsVE bm = true
  sa : findIn K (.ref C) "__setattr__" = some (some (.builtin "object.__setattr__"))
  ga : findIn K (.ref C) "__getattribute__" = some (some (.builtin "BaseException.__getattribute__"))
  gg : findIn K (.ref C) "__getattr__" = some none
  noN : findIn K (.ref C) "number" = some none
  iC : findIn K (.ref C) "__init__" = some (some (.ref fI))
  tC : typeIn K (.ref fI) = some (.type "function")
  kC : keepIn K (.ref C) = true
  exC : subIn K (.ref C) (.type "BaseException") = some true
  tyC : typeIn K (.ref C) = some (.type "type")
  hdC : hasDictIn K C = true
  te : exmOne K (.ref C) (.ref C) = some true
  fn : ∃ (oc : Value) (od : Option Addr) (doc pm : Value) (an : Option Addr) (cdv ct : Value) (osl : Array (Option Value)) (p1 p2 q1 q2 q3 q4 : Pos),
    K.lookup fI = some ⟨oc, od, .func (fnOf "__init__" "BadNumber.__init__" (iA p1 p2) (iB q1 q2 q3 q4) iS .none .none doc pm an cdv ct), osl⟩ ∧ codeIn K cdv "BadNumber.__init__" = true
theorem one_size (v : Value) : [v].length ≤ sizeLine := by
  rw [sizeLine_eq]
  exact (by decide : 1 ≤ 16777216)
theorem ldC {M : Model} {s : Shared} {name : Str} {scope : Scope} {L a : Addr} {cd : Value} {m : Str → Option Value} {x : Str} {pos : Pos} {v : Value} {Q : Value → Shared → Prop} {A : Around} {E : Value → Shared → Prop} (hn : s.heap.Ns L m) (hv : m x = some v) (h : Q v s)
    (hk : scope.kind = .function := by rfl) (hl : (envOfC name scope L a cd).kindOf x = some .local := by rfl) (hd : (x == ("__debug__" : Str)) = false := by decide) :
    wpAny M A (eval (.Name x pos) (envOfC name scope L a cd)) Q E s := wpAny_Name (wpAny_loadName_local hk hl hn hv h) hd
/-- what __init__ leaves of a fresh exception at x -/
structure InitEnd (h h' : Heap) (x C dx t1 : Addr) (v : Value) : Prop where
  keep : ∀ b o, b ≠ x → h.get? b = some o → h'.get? b = some o
  obj : h'.get? x = some { cls := .ref C, dict := some dx, data := .fields #[.ref t1, .none, .none, .none, .bool false, .none] }
  dbig : h.objs.size ≤ dx
  dne : dx ≠ x
  ns : h'.Ns1 dx (fun y => if y = "number" then some v else none)
/-- a made Low -/
structure OwnMade (h h' : Heap) (e C d : Addr) (v : Value) : Prop where
  keep : ∀ b o, h.get? b = some o → h'.get? b = some o
  new : h.objs.size ≤ e
  obj : ∃ oe vs, h'.get? e = some oe ∧ oe.cls = .ref C ∧ oe.dict = some d ∧ oe.data = .fields vs ∧ vs[1]? = some .none
  dbig : h.objs.size ≤ d
  dne : d ≠ e
  ns : h'.Ns1 d (fun y => if y = "number" then some v else none)
section
variable {prog : Program} {w : World} {A : Around} {E : Value → Shared → Prop} {R : Result → Shared → Prop} {s : Shared} {K : Frag} {mg : Str → Option Value} {C fI : Addr}
theorem low_init (T : LowTxt K mg C fI) {x t0 : Addr} {v : Value} (X : K.In s.heap) (hlim : s.heap.NoLimit) (hx : s.heap.get? x = some (excO C t0)) (hnx : K.lookup x = none) (hroom : A.depth < recursionLimit)
    (hq : ∀ h' tk dx, InitEnd s.heap h' x C dx t0 v → R (.ok (.ret .none)) { s with heap := h', toks := tk }) :
    codeAny (model prog w) A (.call (.ref fI) ⟨[.ref x, v], []⟩) R s := by
  obtain ⟨oc, od, doc, pm, an, cdv, ct, osl, p1, p2, q1, q2, q3, q4, ho, hcd⟩ := T.fn
  obtain ⟨nm, q, N, bs, bm, sn, sub, ab, col, dd, k0, k1, k2, k3, k5, hC, hbm⟩ := T.cls
  have hcl : clsIn K C = some { name := nm, bases := bs, mro := .ref C :: bm, ns := N, qualname := q, hasDict := true, slotNames := sn, subclasses := sub, abstract := ab, collection := col, hasDel := false } := by unfold clsIn; rw [hC] <;> rfl
  refine Att.call_fn (binds := [("self", .ref x), ("number", v)]) X hlim ho hcd hroom (BindsTo.of_eq (by first | rfl | with_unfolding_all rfl)) (by first | rfl | decide | with_unfolding_all rfl) (fun s₁ IC => ?_) rfl rfl rfl
  obtain ⟨h₁, tk₁, rfl⟩ := IC.toInCall.same
  have k : ∀ b o, s.heap.get? b = some o → h₁.get? b = some o := IC.toInCall.keep
  have hn := IC.toInCall.ns
  have hxL : s.heap.objs.size ≠ x := Nat.ne_of_gt (Heap.lt_size hx)
  have X₁ : K.In h₁ := X.keeps k
  have hx₁ := k _ _ hx
  -- self.by = by
  show wpAny _ _ (execs _ _) _ _ _
  refine wpAny_execs_cons (plainObj_wpAny_Assign_Attribute ?_)
  refine ldC (v := v) hn (by first | rfl | with_unfolding_all rfl | kernel_rfl) (ldC (v := .ref x) hn (by first | rfl | with_unfolding_all rfl | kernel_rfl) ?_)
  refine set_plain X₁ (ox := excO C t0) (od := none) ⟨hx₁, rfl, rfl, trivial⟩ T.sa ?_
  refine exc_osa X₁ hx₁ hcl (show refsVE (.ref C :: bm) = true from hbm) rfl T.noN (fun h₃ tk₃ dx k₃ dn dne hx₃ hn₃ => ?_)
  show wpAny _ _ (execs _ _) _ _ _
  have z : s.heap.objs.size < h₁.objs.size := hn.lt
  exact wpAny_execs_nil (hq h₃ tk₃ dx ⟨fun b o hb e => k₃ b o hb (k b o e), hx₃, Nat.le_of_lt (Nat.lt_of_lt_of_le z dn), dne, hn₃⟩)
theorem low_made (T : LowTxt K mg C fI) {v : Value} (X : K.In s.heap) (hlim : s.heap.NoLimit) (hroom : A.depth + 1 < recursionLimit)
    (hq : ∀ h' tk e d, OwnMade s.heap h' e C d v → R (.ok (.ret (.ref e))) { s with heap := h', toks := tk }) :
    codeAny (model prog w) A (.call (.ref C) ⟨[v], []⟩) R s := by
  obtain ⟨nm, q, N, bs, bm, sn, sub, ab, col, dd, k0, k1, k2, k3, k5, hC, hbm⟩ := T.cls
  obtain ⟨hp, g, dr, tk, os⟩ := s
  have k : ∀ b o, hp.get? b = some o → ((hp.push (kdv_tup [v])).push (excO C hp.objs.size)).get? b = some o := fun b o e => Heap.get?_push_of_some _ (Heap.get?_push_of_some _ e)
  have hget : ((hp.push (kdv_tup [v])).push (excO C hp.objs.size)).get? (hp.objs.size + 1) = some (excO C hp.objs.size) := by heap_get
  have hnx : K.lookup (hp.objs.size + 1) = none := by
    cases e : K.lookup (hp.objs.size + 1) with
    | none => rfl
    | some o =>
      have z : hp.get? (hp.objs.size + 1) = some o := X _ _ e
      exact absurd (Nat.lt_of_succ_lt (Heap.lt_size z)) (Nat.lt_irrefl _)
  refine call_own F.excBase_ValueError (fun X => refsVE_contains X bm hbm) (X _ _ hC) (looks_findIn X T.iC) (fun self => bind_fn X self T.tC) (one_size v) ?_
  refine low_init (s := ⟨(hp.push (kdv_tup [v])).push (excO C hp.objs.size), g, dr, tk, os⟩) T (X.keeps k) (hlim.keeps k) hget hnx ?_ fun h' tk' dx ⟨k', hx, dn, dne, hns⟩ => ?_
  · show A.depth + 1 < recursionLimit
    exact hroom
  · have old : ∀ b o, hp.get? b = some o → h'.get? b = some o := fun b o e => k' b o (Nat.ne_of_lt (Nat.lt_succ_of_lt (Heap.lt_size e))) (k b o e)
    have z : hp.objs.size + 1 + 1 ≤ dx := by
      first
        | (simpa only [Heap.size_push] using dn)
        | exact dn
        | (have q := dn; rw [Heap.size_push, Heap.size_push] at q; exact q)
    exact ⟨rfl, hq h' tk' (hp.objs.size + 1) dx ⟨old, Nat.le_succ _, ⟨_, _, hx, rfl, rfl, rfl, rfl⟩, Nat.le_trans (Nat.le_trans (Nat.le_succ _) (Nat.le_succ _)) z, dne, hns⟩⟩
end
end ErrBadNumber
end PySem
namespace L2
open PySem PySem.Spec PyProof.Rows
theorem relO_low_BadNumber {v : V} {v' : Value} (r : RelV v v') (f : Str) : RelO (List.lookup f [(("number" : Str), v)]) (if f = "number" then some v' else none) := by
  by_cases hw : f = "number"
  · subst hw
    rw [if_pos rfl]
    have q : List.lookup ("number" : Str) [(("number" : Str), v)] = some v := by simp [List.lookup]
    rw [q]
    exact r
  · rw [if_neg hw]
    have qw : (f == ("number" : Str)) = false := by simpa using hw
    have q2 : List.lookup f [(("number" : Str), v)] = none := by simp [List.lookup, qw]
    rw [q2]
    trivial
section
variable {X : Cx} {C fI : Addr}
/-- Low(e) -/
def tMkLow_BadNumber (C : Addr) (ta : TA) : St → Hp → XK → Prop := fun σ H Q => ta σ H fun vs H1 => ∃ v, vs = [v] ∧ ∀ d, H1 d = none → Q (.ref C) (some d) (upd H1 d (.xd [(("number" : Str), v)]))
theorem pmk_low_BadNumber {a : Expr} {ta : TA} {p pos : Pos} {k : Nat} (T : PySem.ErrBadNumber.LowTxt X.K X.mg C fI) (hr : Room k X.A) (ha : PA X [a] ta) (hg : Gl X "BadNumber" := by rfl)
    (he : starEach (a :: []) X.env = (false, eval a X.env) :: starEach [] X.env := by rfl) (hpl : (backTo pos (starEach [] X.env)).any (·.1) = false := by rfl) :
    PMk X (.Call (.Name "BadNumber" p) [a] [] pos) (tMkLow_BadNumber C ta) := by
  intro pins s σ H Q I h
  refine wpAny_Call_Name_kw (ld_glob I hg T.gC ?_)
  refine PySem.W.callWith_K (h₀ := X.base) I.ok.mod.kin T.kC (thn (ha.run pos pins s σ H _ I h) fun us s1 hh => ?_) he hpl
  obtain ⟨vs, H1, I1, r1, v, ev, q1⟩ := hh
  subst ev
  refine ⟨I1.kIn, ?_⟩
  cases r1 with
  | cons rv rn =>
    rename_i v' us'
    cases rn
    show wpAny _ _ (call (.ref C) [v']) _ _ _
    have hlim := I1.nolimit
    obtain ⟨hp, g, dr, tk, os⟩ := s1
    refine wpAny_call (PySem.ErrBadNumber.low_made T I1.kIn hlim (by have := hr.dp; omega) fun h' tk' e d M => ?_)
    show MkP X pins σ Q (.ref e) ⟨h', g, dr, tk', os⟩
    obtain ⟨oe, fv, hoe, hc, hd, hdat, h1⟩ := M.obj
    have hns := M.ns
    obtain ⟨G', g1, g2⟩ := restrict h' fun b => decide (b ≠ e)
    have gk : ∀ b, b ≠ e → G'.get? b = h'.get? b := fun b hb => g1 b (decide_eq_true hb)
    have ge : G'.get? e = none := g2 e (by simp)
    have old : ∀ b o, hp.get? b = some o → G'.get? b = some o := fun b o q => (gk b (Nat.ne_of_lt (Nat.lt_of_lt_of_le (Heap.lt_size q) M.new))).trans (M.keep b o q)
    have ob : ObjOk X.prog X.w (upd H1 d (.xd [(("number" : Str), v)])) G' d (.xd [(("number" : Str), v)]) :=
      ⟨_, hns.at (fun o q => (gk d M.dne).trans q), fun f => relO_low_BadNumber rv f⟩
    have J : Inv X pins σ (upd H1 d (.xd [(("number" : Str), v)])) ⟨G', g, dr, tk', os⟩ := I1.laid (t' := tk') old M.dbig ob
    refine ⟨e, oe, fv, ⟨G', g, dr, tk', os⟩, _, .ref C, some d, rfl, J, fun b o q => ?_, ge, hoe, ⟨hc, hd⟩, hdat, h1, ?_, rfl, I1.bare, raises_own T.exC T.tyC, q1 d (I1.hok.fresh M.dbig)⟩
    · by_cases hb : b = e
      · have q' : G'.get? b = some o := q
        rw [hb, ge] at q'; cases q'
      · exact (gk b hb).symm.trans q
    · rw [upd_ne (Ne.symm M.dne)]
      exact I1.hok.fresh M.new
/-- raise Low(e) -/
def tRaiseLow_BadNumber (C : Addr) (W : WX) (ta : TA) : TS := fun _ σ H => tMkLow_BadNumber C ta σ H fun cls d H' => W cls d σ H'
theorem ps_raiseLow_BadNumber {a : Expr} {ta : TA} {W : WX} {p pos pos2 : Pos} {k : Nat} (hc : X.calm = true) (T : PySem.ErrBadNumber.LowTxt X.K X.mg C fI) (hr : Room k X.A) (tk : Takes X W) (ha : PA X [a] ta) (hg : Gl X "BadNumber" := by rfl)
    (he : starEach (a :: []) X.env = (false, eval a X.env) :: starEach [] X.env := by rfl) (hpl : (backTo pos (starEach [] X.env)).any (·.1) = false := by rfl) :
    PS X (.Raise (some (.Call (.Name "BadNumber" p) [a] [] pos)) none pos2) (tRaiseLow_BadNumber C W ta) := ps_raise hc tk (pmk_low_BadNumber T hr ha hg he hpl)
/-- low.by, low the exception that the suite holds (at a; its class cls, its dict d) -/
def tByLow_BadNumber (C : Addr) (a : Addr) (cls : Value) (d : Option Addr) (te : TE) : TE := fun σ H Q => te σ H fun x H1 => x = .ref a ∧ cls = .ref C ∧ ∃ (dd : Addr) (v : V), d = some dd ∧ H1 dd = some (.xd [(("number" : Str), v)]) ∧ Q v H1
theorem pe_byLow_BadNumber {a : Addr} {oe : Obj} {cls : Value} {d : Option Addr} {pn : List (Addr × Obj)} {e : Expr} {te : TE} {pos : Pos} (T : PySem.ErrBadNumber.LowTxt X.K X.mg C fI) (hz : Zc cls d oe) (hf : ∃ vs, oe.data = .fields vs) (he : PE (X.suite a ((a, oe) :: pn)) e te)
    (hb : attributeBase e "number" X.env (eval e X.env) = eval e X.env := by rfl) :
    PE (X.suite a ((a, oe) :: pn)) (.Attribute e "number" pos) (tByLow_BadNumber C a cls d te) := by
  refine ⟨fun pins s σ H Q I h => ?_⟩
  refine attr_of hb (thn (he.run pins s σ H _ I h) fun u s1 hh => ?_)
  obtain ⟨x, H1, I1, rx, ex, ec, dd, v, ed, ea, q⟩ := hh
  subst ex
  obtain rfl : u = Value.ref a := rx
  subst ec
  subst ed
  obtain ⟨ha, _⟩ := I1.pin (a, oe) (List.mem_append_left _ List.mem_cons_self)
  obtain ⟨vs, hd⟩ := hf
  have hx : ObjOk X.prog X.w H1 s1.heap dd (.xd [(("number" : Str), v)]) := I1.hok dd _ ea
  obtain ⟨mA, hns, hr⟩ := hx
  obtain ⟨od, ho, hl⟩ := lookIn_ns hns
  have l : List.lookup ("number" : Str) [(("number" : Str), v)] = some v := by simp [List.lookup]
  obtain ⟨u, hu, ru⟩ := RelO.some_of (v := v) (o := mA "number") (by rw [← l]; exact hr "number")
  have J : PySem.W.InstAt s1.heap a oe C (some od) := ⟨ha, hz.1, by unfold PySem.W.notCls; rw [hd] <;> rfl, by rw [hz.2]; exact ho⟩
  exact HandSPX.exc_get I1.kIn J T.ga T.gg T.exC (PySem.W.findObj_own T.hdC T.noN rfl (by rw [hl, hu])) (handed_of ru) ⟨v, H1, I1.tok _, ru, q⟩
end
end L2
namespace PySem
namespace ErrBadName
open PySem.W PySem.Calls PyProof.Rows PySem.HandSPX
def iA (p1 p2 : Pos) : Arguments := { posonlyargs := [], args := [{ arg := "self", annotation := none, pos := p1 }, { arg := "name", annotation := none, pos := p2 }], vararg := none, kwonlyargs := [], kw_defaults := [], kwarg := none, defaults := [] }
def iB (q1 q2 q3 q4 : Pos) : List Stmt := [.Assign [.Attribute (.Name "self" q1) "name" q2] (.Name "name" q3) q4]
def iS : Scope := { kind := .function, names := [(PySem.Str.ofString "self", .local), (PySem.Str.ofString "name", .local)], isGenerator := false, isCoroutine := false, more := [] }
/-- what the written part says of Low, at C, and of its __init__, at fI -/
structure LowTxt (K : Frag) (mg : Str → Option Value) (C fI : Addr) : Prop where
  gC : mg "BadName" = some (.ref C)
  cls : ∃ nm q N bs bm sn sub ab col dd k0 k1 k2 k3 k5, K.lookup C = some (excClassObj nm q C N bs bm true sn sub ab col dd k0 k1 k2 k3 k5 "ValueError.__new__") ∧ refsVE bm = true
  sa : findIn K (.ref C) "__setattr__" = some (some (.builtin "object.__setattr__"))
  ga : findIn K (.ref C) "__getattribute__" = some (some (.builtin "BaseException.__getattribute__"))
  gg : findIn K (.ref C) "__getattr__" = some none
  noN : findIn K (.ref C) "name" = some none
  iC : findIn K (.ref C) "__init__" = some (some (.ref fI))
  tC : typeIn K (.ref fI) = some (.type "function")
  kC : keepIn K (.ref C) = true
  exC : subIn K (.ref C) (.type "BaseException") = some true
  tyC : typeIn K (.ref C) = some (.type "type")
  hdC : hasDictIn K C = true
  te : exmOne K (.ref C) (.ref C) = some true
  fn : ∃ (oc : Value) (od : Option Addr) (doc pm : Value) (an : Option Addr) (cdv ct : Value) (osl : Array (Option Value)) (p1 p2 q1 q2 q3 q4 : Pos),
    K.lookup fI = some ⟨oc, od, .func (fnOf "__init__" "BadName.__init__" (iA p1 p2) (iB q1 q2 q3 q4) iS .none .none doc pm an cdv ct), osl⟩ ∧ codeIn K cdv "BadName.__init__" = true
theorem one_size (v : Value) : [v].length ≤ sizeLine := by
  rw [sizeLine_eq]
  exact (by decide : 1 ≤ 16777216)
theorem ldC {M : Model} {s : Shared} {name : Str} {scope : Scope} {L a : Addr} {cd : Value} {m : Str → Option Value} {x : Str} {pos : Pos} {v : Value} {Q : Value → Shared → Prop} {A : Around} {E : Value → Shared → Prop} (hn : s.heap.Ns L m) (hv : m x = some v) (h : Q v s)
    (hk : scope.kind = .function := by rfl) (hl : (envOfC name scope L a cd).kindOf x = some .local := by rfl) (hd : (x == ("__debug__" : Str)) = false := by decide) :
    wpAny M A (eval (.Name x pos) (envOfC name scope L a cd)) Q E s := wpAny_Name (wpAny_loadName_local hk hl hn hv h) hd
/-- what __init__ leaves of a fresh exception at x -/
structure InitEnd (h h' : Heap) (x C dx t1 : Addr) (v : Value) : Prop where
  keep : ∀ b o, b ≠ x → h.get? b = some o → h'.get? b = some o
  obj : h'.get? x = some { cls := .ref C, dict := some dx, data := .fields #[.ref t1, .none, .none, .none, .bool false, .none] }
  dbig : h.objs.size ≤ dx
  dne : dx ≠ x
  ns : h'.Ns1 dx (fun y => if y = "name" then some v else none)
/-- a made Low -/
structure OwnMade (h h' : Heap) (e C d : Addr) (v : Value) : Prop where
  keep : ∀ b o, h.get? b = some o → h'.get? b = some o
  new : h.objs.size ≤ e
  obj : ∃ oe vs, h'.get? e = some oe ∧ oe.cls = .ref C ∧ oe.dict = some d ∧ oe.data = .fields vs ∧ vs[1]? = some .none
  dbig : h.objs.size ≤ d
  dne : d ≠ e
  ns : h'.Ns1 d (fun y => if y = "name" then some v else none)
section
variable {prog : Program} {w : World} {A : Around} {E : Value → Shared → Prop} {R : Result → Shared → Prop} {s : Shared} {K : Frag} {mg : Str → Option Value} {C fI : Addr}
theorem low_init (T : LowTxt K mg C fI) {x t0 : Addr} {v : Value} (X : K.In s.heap) (hlim : s.heap.NoLimit) (hx : s.heap.get? x = some (excO C t0)) (hnx : K.lookup x = none) (hroom : A.depth < recursionLimit)
    (hq : ∀ h' tk dx, InitEnd s.heap h' x C dx t0 v → R (.ok (.ret .none)) { s with heap := h', toks := tk }) :
    codeAny (model prog w) A (.call (.ref fI) ⟨[.ref x, v], []⟩) R s := by
  obtain ⟨oc, od, doc, pm, an, cdv, ct, osl, p1, p2, q1, q2, q3, q4, ho, hcd⟩ := T.fn
  obtain ⟨nm, q, N, bs, bm, sn, sub, ab, col, dd, k0, k1, k2, k3, k5, hC, hbm⟩ := T.cls
  have hcl : clsIn K C = some { name := nm, bases := bs, mro := .ref C :: bm, ns := N, qualname := q, hasDict := true, slotNames := sn, subclasses := sub, abstract := ab, collection := col, hasDel := false } := by unfold clsIn; rw [hC] <;> rfl
  refine Att.call_fn (binds := [("self", .ref x), ("name", v)]) X hlim ho hcd hroom (BindsTo.of_eq (by first | rfl | with_unfolding_all rfl)) (by first | rfl | decide | with_unfolding_all rfl) (fun s₁ IC => ?_) rfl rfl rfl
  obtain ⟨h₁, tk₁, rfl⟩ := IC.toInCall.same
  have k : ∀ b o, s.heap.get? b = some o → h₁.get? b = some o := IC.toInCall.keep
  have hn := IC.toInCall.ns
  have hxL : s.heap.objs.size ≠ x := Nat.ne_of_gt (Heap.lt_size hx)
  have X₁ : K.In h₁ := X.keeps k
  have hx₁ := k _ _ hx
  -- self.by = by
  show wpAny _ _ (execs _ _) _ _ _
  refine wpAny_execs_cons (plainObj_wpAny_Assign_Attribute ?_)
  refine ldC (v := v) hn (by first | rfl | with_unfolding_all rfl | kernel_rfl) (ldC (v := .ref x) hn (by first | rfl | with_unfolding_all rfl | kernel_rfl) ?_)
  refine set_plain X₁ (ox := excO C t0) (od := none) ⟨hx₁, rfl, rfl, trivial⟩ T.sa ?_
  refine exc_osa X₁ hx₁ hcl (show refsVE (.ref C :: bm) = true from hbm) rfl T.noN (fun h₃ tk₃ dx k₃ dn dne hx₃ hn₃ => ?_)
  show wpAny _ _ (execs _ _) _ _ _
  have z : s.heap.objs.size < h₁.objs.size := hn.lt
  exact wpAny_execs_nil (hq h₃ tk₃ dx ⟨fun b o hb e => k₃ b o hb (k b o e), hx₃, Nat.le_of_lt (Nat.lt_of_lt_of_le z dn), dne, hn₃⟩)
theorem low_made (T : LowTxt K mg C fI) {v : Value} (X : K.In s.heap) (hlim : s.heap.NoLimit) (hroom : A.depth + 1 < recursionLimit)
    (hq : ∀ h' tk e d, OwnMade s.heap h' e C d v → R (.ok (.ret (.ref e))) { s with heap := h', toks := tk }) :
    codeAny (model prog w) A (.call (.ref C) ⟨[v], []⟩) R s := by
  obtain ⟨nm, q, N, bs, bm, sn, sub, ab, col, dd, k0, k1, k2, k3, k5, hC, hbm⟩ := T.cls
  obtain ⟨hp, g, dr, tk, os⟩ := s
  have k : ∀ b o, hp.get? b = some o → ((hp.push (kdv_tup [v])).push (excO C hp.objs.size)).get? b = some o := fun b o e => Heap.get?_push_of_some _ (Heap.get?_push_of_some _ e)
  have hget : ((hp.push (kdv_tup [v])).push (excO C hp.objs.size)).get? (hp.objs.size + 1) = some (excO C hp.objs.size) := by heap_get
  have hnx : K.lookup (hp.objs.size + 1) = none := by
    cases e : K.lookup (hp.objs.size + 1) with
    | none => rfl
    | some o =>
      have z : hp.get? (hp.objs.size + 1) = some o := X _ _ e
      exact absurd (Nat.lt_of_succ_lt (Heap.lt_size z)) (Nat.lt_irrefl _)
  refine call_own F.excBase_ValueError (fun X => refsVE_contains X bm hbm) (X _ _ hC) (looks_findIn X T.iC) (fun self => bind_fn X self T.tC) (one_size v) ?_
  refine low_init (s := ⟨(hp.push (kdv_tup [v])).push (excO C hp.objs.size), g, dr, tk, os⟩) T (X.keeps k) (hlim.keeps k) hget hnx ?_ fun h' tk' dx ⟨k', hx, dn, dne, hns⟩ => ?_
  · show A.depth + 1 < recursionLimit
    exact hroom
  · have old : ∀ b o, hp.get? b = some o → h'.get? b = some o := fun b o e => k' b o (Nat.ne_of_lt (Nat.lt_succ_of_lt (Heap.lt_size e))) (k b o e)
    have z : hp.objs.size + 1 + 1 ≤ dx := by
      first
        | (simpa only [Heap.size_push] using dn)
        | exact dn
        | (have q := dn; rw [Heap.size_push, Heap.size_push] at q; exact q)
    exact ⟨rfl, hq h' tk' (hp.objs.size + 1) dx ⟨old, Nat.le_succ _, ⟨_, _, hx, rfl, rfl, rfl, rfl⟩, Nat.le_trans (Nat.le_trans (Nat.le_succ _) (Nat.le_succ _)) z, dne, hns⟩⟩
end
end ErrBadName
end PySem
namespace L2
open PySem PySem.Spec PyProof.Rows
theorem relO_low_BadName {v : V} {v' : Value} (r : RelV v v') (f : Str) : RelO (List.lookup f [(("name" : Str), v)]) (if f = "name" then some v' else none) := by
  by_cases hw : f = "name"
  · subst hw
    rw [if_pos rfl]
    have q : List.lookup ("name" : Str) [(("name" : Str), v)] = some v := by simp [List.lookup]
    rw [q]
    exact r
  · rw [if_neg hw]
    have qw : (f == ("name" : Str)) = false := by simpa using hw
    have q2 : List.lookup f [(("name" : Str), v)] = none := by simp [List.lookup, qw]
    rw [q2]
    trivial
section
variable {X : Cx} {C fI : Addr}
/-- Low(e) -/
def tMkLow_BadName (C : Addr) (ta : TA) : St → Hp → XK → Prop := fun σ H Q => ta σ H fun vs H1 => ∃ v, vs = [v] ∧ ∀ d, H1 d = none → Q (.ref C) (some d) (upd H1 d (.xd [(("name" : Str), v)]))
theorem pmk_low_BadName {a : Expr} {ta : TA} {p pos : Pos} {k : Nat} (T : PySem.ErrBadName.LowTxt X.K X.mg C fI) (hr : Room k X.A) (ha : PA X [a] ta) (hg : Gl X "BadName" := by rfl)
    (he : starEach (a :: []) X.env = (false, eval a X.env) :: starEach [] X.env := by rfl) (hpl : (backTo pos (starEach [] X.env)).any (·.1) = false := by rfl) :
    PMk X (.Call (.Name "BadName" p) [a] [] pos) (tMkLow_BadName C ta) := by
  intro pins s σ H Q I h
  refine wpAny_Call_Name_kw (ld_glob I hg T.gC ?_)
  refine PySem.W.callWith_K (h₀ := X.base) I.ok.mod.kin T.kC (thn (ha.run pos pins s σ H _ I h) fun us s1 hh => ?_) he hpl
  obtain ⟨vs, H1, I1, r1, v, ev, q1⟩ := hh
  subst ev
  refine ⟨I1.kIn, ?_⟩
  cases r1 with
  | cons rv rn =>
    rename_i v' us'
    cases rn
    show wpAny _ _ (call (.ref C) [v']) _ _ _
    have hlim := I1.nolimit
    obtain ⟨hp, g, dr, tk, os⟩ := s1
    refine wpAny_call (PySem.ErrBadName.low_made T I1.kIn hlim (by have := hr.dp; omega) fun h' tk' e d M => ?_)
    show MkP X pins σ Q (.ref e) ⟨h', g, dr, tk', os⟩
    obtain ⟨oe, fv, hoe, hc, hd, hdat, h1⟩ := M.obj
    have hns := M.ns
    obtain ⟨G', g1, g2⟩ := restrict h' fun b => decide (b ≠ e)
    have gk : ∀ b, b ≠ e → G'.get? b = h'.get? b := fun b hb => g1 b (decide_eq_true hb)
    have ge : G'.get? e = none := g2 e (by simp)
    have old : ∀ b o, hp.get? b = some o → G'.get? b = some o := fun b o q => (gk b (Nat.ne_of_lt (Nat.lt_of_lt_of_le (Heap.lt_size q) M.new))).trans (M.keep b o q)
    have ob : ObjOk X.prog X.w (upd H1 d (.xd [(("name" : Str), v)])) G' d (.xd [(("name" : Str), v)]) :=
      ⟨_, hns.at (fun o q => (gk d M.dne).trans q), fun f => relO_low_BadName rv f⟩
    have J : Inv X pins σ (upd H1 d (.xd [(("name" : Str), v)])) ⟨G', g, dr, tk', os⟩ := I1.laid (t' := tk') old M.dbig ob
    refine ⟨e, oe, fv, ⟨G', g, dr, tk', os⟩, _, .ref C, some d, rfl, J, fun b o q => ?_, ge, hoe, ⟨hc, hd⟩, hdat, h1, ?_, rfl, I1.bare, raises_own T.exC T.tyC, q1 d (I1.hok.fresh M.dbig)⟩
    · by_cases hb : b = e
      · have q' : G'.get? b = some o := q
        rw [hb, ge] at q'; cases q'
      · exact (gk b hb).symm.trans q
    · rw [upd_ne (Ne.symm M.dne)]
      exact I1.hok.fresh M.new
/-- raise Low(e) -/
def tRaiseLow_BadName (C : Addr) (W : WX) (ta : TA) : TS := fun _ σ H => tMkLow_BadName C ta σ H fun cls d H' => W cls d σ H'
theorem ps_raiseLow_BadName {a : Expr} {ta : TA} {W : WX} {p pos pos2 : Pos} {k : Nat} (hc : X.calm = true) (T : PySem.ErrBadName.LowTxt X.K X.mg C fI) (hr : Room k X.A) (tk : Takes X W) (ha : PA X [a] ta) (hg : Gl X "BadName" := by rfl)
    (he : starEach (a :: []) X.env = (false, eval a X.env) :: starEach [] X.env := by rfl) (hpl : (backTo pos (starEach [] X.env)).any (·.1) = false := by rfl) :
    PS X (.Raise (some (.Call (.Name "BadName" p) [a] [] pos)) none pos2) (tRaiseLow_BadName C W ta) := ps_raise hc tk (pmk_low_BadName T hr ha hg he hpl)
/-- low.by, low the exception that the suite holds (at a; its class cls, its dict d) -/
def tByLow_BadName (C : Addr) (a : Addr) (cls : Value) (d : Option Addr) (te : TE) : TE := fun σ H Q => te σ H fun x H1 => x = .ref a ∧ cls = .ref C ∧ ∃ (dd : Addr) (v : V), d = some dd ∧ H1 dd = some (.xd [(("name" : Str), v)]) ∧ Q v H1
theorem pe_byLow_BadName {a : Addr} {oe : Obj} {cls : Value} {d : Option Addr} {pn : List (Addr × Obj)} {e : Expr} {te : TE} {pos : Pos} (T : PySem.ErrBadName.LowTxt X.K X.mg C fI) (hz : Zc cls d oe) (hf : ∃ vs, oe.data = .fields vs) (he : PE (X.suite a ((a, oe) :: pn)) e te)
    (hb : attributeBase e "name" X.env (eval e X.env) = eval e X.env := by rfl) :
    PE (X.suite a ((a, oe) :: pn)) (.Attribute e "name" pos) (tByLow_BadName C a cls d te) := by
  refine ⟨fun pins s σ H Q I h => ?_⟩
  refine attr_of hb (thn (he.run pins s σ H _ I h) fun u s1 hh => ?_)
  obtain ⟨x, H1, I1, rx, ex, ec, dd, v, ed, ea, q⟩ := hh
  subst ex
  obtain rfl : u = Value.ref a := rx
  subst ec
  subst ed
  obtain ⟨ha, _⟩ := I1.pin (a, oe) (List.mem_append_left _ List.mem_cons_self)
  obtain ⟨vs, hd⟩ := hf
  have hx : ObjOk X.prog X.w H1 s1.heap dd (.xd [(("name" : Str), v)]) := I1.hok dd _ ea
  obtain ⟨mA, hns, hr⟩ := hx
  obtain ⟨od, ho, hl⟩ := lookIn_ns hns
  have l : List.lookup ("name" : Str) [(("name" : Str), v)] = some v := by simp [List.lookup]
  obtain ⟨u, hu, ru⟩ := RelO.some_of (v := v) (o := mA "name") (by rw [← l]; exact hr "name")
  have J : PySem.W.InstAt s1.heap a oe C (some od) := ⟨ha, hz.1, by unfold PySem.W.notCls; rw [hd] <;> rfl, by rw [hz.2]; exact ho⟩
  exact HandSPX.exc_get I1.kIn J T.ga T.gg T.exC (PySem.W.findObj_own T.hdC T.noN rfl (by rw [hl, hu])) (handed_of ru) ⟨v, H1, I1.tok _, ru, q⟩
end
end L2
namespace PySem
namespace ErrBadKey
open PySem.W PySem.Calls PyProof.Rows PySem.HandSPX
def iA (p1 p2 : Pos) : Arguments := { posonlyargs := [], args := [{ arg := "self", annotation := none, pos := p1 }, { arg := "key", annotation := none, pos := p2 }], vararg := none, kwonlyargs := [], kw_defaults := [], kwarg := none, defaults := [] }
def iB (q1 q2 q3 q4 : Pos) : List Stmt := [.Assign [.Attribute (.Name "self" q1) "key" q2] (.Name "key" q3) q4]
def iS : Scope := { kind := .function, names := [(PySem.Str.ofString "self", .local), (PySem.Str.ofString "key", .local)], isGenerator := false, isCoroutine := false, more := [] }
/-- what the written part says of Low, at C, and of its __init__, at fI -/
structure LowTxt (K : Frag) (mg : Str → Option Value) (C fI : Addr) : Prop where
  gC : mg "BadKey" = some (.ref C)
  cls : ∃ nm q N bs bm sn sub ab col dd k0 k1 k2 k3 k5, K.lookup C = some (excClassObj nm q C N bs bm true sn sub ab col dd k0 k1 k2 k3 k5 "ValueError.__new__") ∧ refsVE bm = true
  sa : findIn K (.ref C) "__setattr__" = some (some (.builtin "object.__setattr__"))
  ga : findIn K (.ref C) "__getattribute__" = some (some (.builtin "BaseException.__getattribute__"))
  gg : findIn K (.ref C) "__getattr__" = some none
  noN : findIn K (.ref C) "key" = some none
  iC : findIn K (.ref C) "__init__" = some (some (.ref fI))
  tC : typeIn K (.ref fI) = some (.type "function")
  kC : keepIn K (.ref C) = true
  exC : subIn K (.ref C) (.type "BaseException") = some true
  tyC : typeIn K (.ref C) = some (.type "type")
  hdC : hasDictIn K C = true
  te : exmOne K (.ref C) (.ref C) = some true
  fn : ∃ (oc : Value) (od : Option Addr) (doc pm : Value) (an : Option Addr) (cdv ct : Value) (osl : Array (Option Value)) (p1 p2 q1 q2 q3 q4 : Pos),
    K.lookup fI = some ⟨oc, od, .func (fnOf "__init__" "BadKey.__init__" (iA p1 p2) (iB q1 q2 q3 q4) iS .none .none doc pm an cdv ct), osl⟩ ∧ codeIn K cdv "BadKey.__init__" = true
end ErrBadKey
end PySem
namespace L2
open PySem PySem.Spec PyProof.Rows
section
variable {X : Cx} {C fI : Addr}
/-- low.by, low the exception that the suite holds (at a; its class cls, its dict d) -/
def tByLow_BadKey (C : Addr) (a : Addr) (cls : Value) (d : Option Addr) (te : TE) : TE := fun σ H Q => te σ H fun x H1 => x = .ref a ∧ cls = .ref C ∧ ∃ (dd : Addr) (v : V), d = some dd ∧ H1 dd = some (.xd [(("key" : Str), v)]) ∧ Q v H1
theorem pe_byLow_BadKey {a : Addr} {oe : Obj} {cls : Value} {d : Option Addr} {pn : List (Addr × Obj)} {e : Expr} {te : TE} {pos : Pos} (T : PySem.ErrBadKey.LowTxt X.K X.mg C fI) (hz : Zc cls d oe) (hf : ∃ vs, oe.data = .fields vs) (he : PE (X.suite a ((a, oe) :: pn)) e te)
    (hb : attributeBase e "key" X.env (eval e X.env) = eval e X.env := by rfl) :
    PE (X.suite a ((a, oe) :: pn)) (.Attribute e "key" pos) (tByLow_BadKey C a cls d te) := by
  refine ⟨fun pins s σ H Q I h => ?_⟩
  refine attr_of hb (thn (he.run pins s σ H _ I h) fun u s1 hh => ?_)
  obtain ⟨x, H1, I1, rx, ex, ec, dd, v, ed, ea, q⟩ := hh
  subst ex
  obtain rfl : u = Value.ref a := rx
  subst ec
  subst ed
  obtain ⟨ha, _⟩ := I1.pin (a, oe) (List.mem_append_left _ List.mem_cons_self)
  obtain ⟨vs, hd⟩ := hf
  have hx : ObjOk X.prog X.w H1 s1.heap dd (.xd [(("key" : Str), v)]) := I1.hok dd _ ea
  obtain ⟨mA, hns, hr⟩ := hx
  obtain ⟨od, ho, hl⟩ := lookIn_ns hns
  have l : List.lookup ("key" : Str) [(("key" : Str), v)] = some v := by simp [List.lookup]
  obtain ⟨u, hu, ru⟩ := RelO.some_of (v := v) (o := mA "key") (by rw [← l]; exact hr "key")
  have J : PySem.W.InstAt s1.heap a oe C (some od) := ⟨ha, hz.1, by unfold PySem.W.notCls; rw [hd] <;> rfl, by rw [hz.2]; exact ho⟩
  exact HandSPX.exc_get I1.kIn J T.ga T.gg T.exC (PySem.W.findObj_own T.hdC T.noN rfl (by rw [hl, hu])) (handed_of ru) ⟨v, H1, I1.tok _, ru, q⟩
end
end L2
namespace PySem
namespace ErrBadErrand
open PySem.W PySem.Calls PyProof.Rows PySem.HandSPX
def iA (p1 p2 : Pos) : Arguments := { posonlyargs := [], args := [{ arg := "self", annotation := none, pos := p1 }, { arg := "index", annotation := none, pos := p2 }], vararg := none, kwonlyargs := [], kw_defaults := [], kwarg := none, defaults := [] }
def iB (q1 q2 q3 q4 : Pos) : List Stmt := [.Assign [.Attribute (.Name "self" q1) "index" q2] (.Name "index" q3) q4]
def iS : Scope := { kind := .function, names := [(PySem.Str.ofString "self", .local), (PySem.Str.ofString "index", .local)], isGenerator := false, isCoroutine := false, more := [] }
/-- what the written part says of Low, at C, and of its __init__, at fI -/
structure LowTxt (K : Frag) (mg : Str → Option Value) (C fI : Addr) : Prop where
  gC : mg "BadErrand" = some (.ref C)
  cls : ∃ nm q N bs bm sn sub ab col dd k0 k1 k2 k3 k5, K.lookup C = some (excClassObj nm q C N bs bm true sn sub ab col dd k0 k1 k2 k3 k5 "ValueError.__new__") ∧ refsVE bm = true
  sa : findIn K (.ref C) "__setattr__" = some (some (.builtin "object.__setattr__"))
  ga : findIn K (.ref C) "__getattribute__" = some (some (.builtin "BaseException.__getattribute__"))
  gg : findIn K (.ref C) "__getattr__" = some none
  noN : findIn K (.ref C) "index" = some none
  iC : findIn K (.ref C) "__init__" = some (some (.ref fI))
  tC : typeIn K (.ref fI) = some (.type "function")
  kC : keepIn K (.ref C) = true
  exC : subIn K (.ref C) (.type "BaseException") = some true
  tyC : typeIn K (.ref C) = some (.type "type")
  hdC : hasDictIn K C = true
  te : exmOne K (.ref C) (.ref C) = some true
  fn : ∃ (oc : Value) (od : Option Addr) (doc pm : Value) (an : Option Addr) (cdv ct : Value) (osl : Array (Option Value)) (p1 p2 q1 q2 q3 q4 : Pos),
    K.lookup fI = some ⟨oc, od, .func (fnOf "__init__" "BadErrand.__init__" (iA p1 p2) (iB q1 q2 q3 q4) iS .none .none doc pm an cdv ct), osl⟩ ∧ codeIn K cdv "BadErrand.__init__" = true
theorem one_size (v : Value) : [v].length ≤ sizeLine := by
  rw [sizeLine_eq]
  exact (by decide : 1 ≤ 16777216)
theorem ldC {M : Model} {s : Shared} {name : Str} {scope : Scope} {L a : Addr} {cd : Value} {m : Str → Option Value} {x : Str} {pos : Pos} {v : Value} {Q : Value → Shared → Prop} {A : Around} {E : Value → Shared → Prop} (hn : s.heap.Ns L m) (hv : m x = some v) (h : Q v s)
    (hk : scope.kind = .function := by rfl) (hl : (envOfC name scope L a cd).kindOf x = some .local := by rfl) (hd : (x == ("__debug__" : Str)) = false := by decide) :
    wpAny M A (eval (.Name x pos) (envOfC name scope L a cd)) Q E s := wpAny_Name (wpAny_loadName_local hk hl hn hv h) hd
/-- what __init__ leaves of a fresh exception at x -/
structure InitEnd (h h' : Heap) (x C dx t1 : Addr) (v : Value) : Prop where
  keep : ∀ b o, b ≠ x → h.get? b = some o → h'.get? b = some o
  obj : h'.get? x = some { cls := .ref C, dict := some dx, data := .fields #[.ref t1, .none, .none, .none, .bool false, .none] }
  dbig : h.objs.size ≤ dx
  dne : dx ≠ x
  ns : h'.Ns1 dx (fun y => if y = "index" then some v else none)
/-- a made Low -/
structure OwnMade (h h' : Heap) (e C d : Addr) (v : Value) : Prop where
  keep : ∀ b o, h.get? b = some o → h'.get? b = some o
  new : h.objs.size ≤ e
  obj : ∃ oe vs, h'.get? e = some oe ∧ oe.cls = .ref C ∧ oe.dict = some d ∧ oe.data = .fields vs ∧ vs[1]? = some .none
  dbig : h.objs.size ≤ d
  dne : d ≠ e
  ns : h'.Ns1 d (fun y => if y = "index" then some v else none)
section
variable {prog : Program} {w : World} {A : Around} {E : Value → Shared → Prop} {R : Result → Shared → Prop} {s : Shared} {K : Frag} {mg : Str → Option Value} {C fI : Addr}
theorem low_init (T : LowTxt K mg C fI) {x t0 : Addr} {v : Value} (X : K.In s.heap) (hlim : s.heap.NoLimit) (hx : s.heap.get? x = some (excO C t0)) (hnx : K.lookup x = none) (hroom : A.depth < recursionLimit)
    (hq : ∀ h' tk dx, InitEnd s.heap h' x C dx t0 v → R (.ok (.ret .none)) { s with heap := h', toks := tk }) :
    codeAny (model prog w) A (.call (.ref fI) ⟨[.ref x, v], []⟩) R s := by
  obtain ⟨oc, od, doc, pm, an, cdv, ct, osl, p1, p2, q1, q2, q3, q4, ho, hcd⟩ := T.fn
  obtain ⟨nm, q, N, bs, bm, sn, sub, ab, col, dd, k0, k1, k2, k3, k5, hC, hbm⟩ := T.cls
  have hcl : clsIn K C = some { name := nm, bases := bs, mro := .ref C :: bm, ns := N, qualname := q, hasDict := true, slotNames := sn, subclasses := sub, abstract := ab, collection := col, hasDel := false } := by unfold clsIn; rw [hC] <;> rfl
  refine Att.call_fn (binds := [("self", .ref x), ("index", v)]) X hlim ho hcd hroom (BindsTo.of_eq (by first | rfl | with_unfolding_all rfl)) (by first | rfl | decide | with_unfolding_all rfl) (fun s₁ IC => ?_) rfl rfl rfl
  obtain ⟨h₁, tk₁, rfl⟩ := IC.toInCall.same
  have k : ∀ b o, s.heap.get? b = some o → h₁.get? b = some o := IC.toInCall.keep
  have hn := IC.toInCall.ns
  have hxL : s.heap.objs.size ≠ x := Nat.ne_of_gt (Heap.lt_size hx)
  have X₁ : K.In h₁ := X.keeps k
  have hx₁ := k _ _ hx
  -- self.by = by
  show wpAny _ _ (execs _ _) _ _ _
  refine wpAny_execs_cons (plainObj_wpAny_Assign_Attribute ?_)
  refine ldC (v := v) hn (by first | rfl | with_unfolding_all rfl | kernel_rfl) (ldC (v := .ref x) hn (by first | rfl | with_unfolding_all rfl | kernel_rfl) ?_)
  refine set_plain X₁ (ox := excO C t0) (od := none) ⟨hx₁, rfl, rfl, trivial⟩ T.sa ?_
  refine exc_osa X₁ hx₁ hcl (show refsVE (.ref C :: bm) = true from hbm) rfl T.noN (fun h₃ tk₃ dx k₃ dn dne hx₃ hn₃ => ?_)
  show wpAny _ _ (execs _ _) _ _ _
  have z : s.heap.objs.size < h₁.objs.size := hn.lt
  exact wpAny_execs_nil (hq h₃ tk₃ dx ⟨fun b o hb e => k₃ b o hb (k b o e), hx₃, Nat.le_of_lt (Nat.lt_of_lt_of_le z dn), dne, hn₃⟩)
theorem low_made (T : LowTxt K mg C fI) {v : Value} (X : K.In s.heap) (hlim : s.heap.NoLimit) (hroom : A.depth + 1 < recursionLimit)
    (hq : ∀ h' tk e d, OwnMade s.heap h' e C d v → R (.ok (.ret (.ref e))) { s with heap := h', toks := tk }) :
    codeAny (model prog w) A (.call (.ref C) ⟨[v], []⟩) R s := by
  obtain ⟨nm, q, N, bs, bm, sn, sub, ab, col, dd, k0, k1, k2, k3, k5, hC, hbm⟩ := T.cls
  obtain ⟨hp, g, dr, tk, os⟩ := s
  have k : ∀ b o, hp.get? b = some o → ((hp.push (kdv_tup [v])).push (excO C hp.objs.size)).get? b = some o := fun b o e => Heap.get?_push_of_some _ (Heap.get?_push_of_some _ e)
  have hget : ((hp.push (kdv_tup [v])).push (excO C hp.objs.size)).get? (hp.objs.size + 1) = some (excO C hp.objs.size) := by heap_get
  have hnx : K.lookup (hp.objs.size + 1) = none := by
    cases e : K.lookup (hp.objs.size + 1) with
    | none => rfl
    | some o =>
      have z : hp.get? (hp.objs.size + 1) = some o := X _ _ e
      exact absurd (Nat.lt_of_succ_lt (Heap.lt_size z)) (Nat.lt_irrefl _)
  refine call_own F.excBase_ValueError (fun X => refsVE_contains X bm hbm) (X _ _ hC) (looks_findIn X T.iC) (fun self => bind_fn X self T.tC) (one_size v) ?_
  refine low_init (s := ⟨(hp.push (kdv_tup [v])).push (excO C hp.objs.size), g, dr, tk, os⟩) T (X.keeps k) (hlim.keeps k) hget hnx ?_ fun h' tk' dx ⟨k', hx, dn, dne, hns⟩ => ?_
  · show A.depth + 1 < recursionLimit
    exact hroom
  · have old : ∀ b o, hp.get? b = some o → h'.get? b = some o := fun b o e => k' b o (Nat.ne_of_lt (Nat.lt_succ_of_lt (Heap.lt_size e))) (k b o e)
    have z : hp.objs.size + 1 + 1 ≤ dx := by
      first
        | (simpa only [Heap.size_push] using dn)
        | exact dn
        | (have q := dn; rw [Heap.size_push, Heap.size_push] at q; exact q)
    exact ⟨rfl, hq h' tk' (hp.objs.size + 1) dx ⟨old, Nat.le_succ _, ⟨_, _, hx, rfl, rfl, rfl, rfl⟩, Nat.le_trans (Nat.le_trans (Nat.le_succ _) (Nat.le_succ _)) z, dne, hns⟩⟩
end
end ErrBadErrand
end PySem
namespace L2
open PySem PySem.Spec PyProof.Rows
theorem relO_low_BadErrand {v : V} {v' : Value} (r : RelV v v') (f : Str) : RelO (List.lookup f [(("index" : Str), v)]) (if f = "index" then some v' else none) := by
  by_cases hw : f = "index"
  · subst hw
    rw [if_pos rfl]
    have q : List.lookup ("index" : Str) [(("index" : Str), v)] = some v := by simp [List.lookup]
    rw [q]
    exact r
  · rw [if_neg hw]
    have qw : (f == ("index" : Str)) = false := by simpa using hw
    have q2 : List.lookup f [(("index" : Str), v)] = none := by simp [List.lookup, qw]
    rw [q2]
    trivial
section
variable {X : Cx} {C fI : Addr}
/-- Low(e) -/
def tMkLow_BadErrand (C : Addr) (ta : TA) : St → Hp → XK → Prop := fun σ H Q => ta σ H fun vs H1 => ∃ v, vs = [v] ∧ ∀ d, H1 d = none → Q (.ref C) (some d) (upd H1 d (.xd [(("index" : Str), v)]))
theorem pmk_low_BadErrand {a : Expr} {ta : TA} {p pos : Pos} {k : Nat} (T : PySem.ErrBadErrand.LowTxt X.K X.mg C fI) (hr : Room k X.A) (ha : PA X [a] ta) (hg : Gl X "BadErrand" := by rfl)
    (he : starEach (a :: []) X.env = (false, eval a X.env) :: starEach [] X.env := by rfl) (hpl : (backTo pos (starEach [] X.env)).any (·.1) = false := by rfl) :
    PMk X (.Call (.Name "BadErrand" p) [a] [] pos) (tMkLow_BadErrand C ta) := by
  intro pins s σ H Q I h
  refine wpAny_Call_Name_kw (ld_glob I hg T.gC ?_)
  refine PySem.W.callWith_K (h₀ := X.base) I.ok.mod.kin T.kC (thn (ha.run pos pins s σ H _ I h) fun us s1 hh => ?_) he hpl
  obtain ⟨vs, H1, I1, r1, v, ev, q1⟩ := hh
  subst ev
  refine ⟨I1.kIn, ?_⟩
  cases r1 with
  | cons rv rn =>
    rename_i v' us'
    cases rn
    show wpAny _ _ (call (.ref C) [v']) _ _ _
    have hlim := I1.nolimit
    obtain ⟨hp, g, dr, tk, os⟩ := s1
    refine wpAny_call (PySem.ErrBadErrand.low_made T I1.kIn hlim (by have := hr.dp; omega) fun h' tk' e d M => ?_)
    show MkP X pins σ Q (.ref e) ⟨h', g, dr, tk', os⟩
    obtain ⟨oe, fv, hoe, hc, hd, hdat, h1⟩ := M.obj
    have hns := M.ns
    obtain ⟨G', g1, g2⟩ := restrict h' fun b => decide (b ≠ e)
    have gk : ∀ b, b ≠ e → G'.get? b = h'.get? b := fun b hb => g1 b (decide_eq_true hb)
    have ge : G'.get? e = none := g2 e (by simp)
    have old : ∀ b o, hp.get? b = some o → G'.get? b = some o := fun b o q => (gk b (Nat.ne_of_lt (Nat.lt_of_lt_of_le (Heap.lt_size q) M.new))).trans (M.keep b o q)
    have ob : ObjOk X.prog X.w (upd H1 d (.xd [(("index" : Str), v)])) G' d (.xd [(("index" : Str), v)]) :=
      ⟨_, hns.at (fun o q => (gk d M.dne).trans q), fun f => relO_low_BadErrand rv f⟩
    have J : Inv X pins σ (upd H1 d (.xd [(("index" : Str), v)])) ⟨G', g, dr, tk', os⟩ := I1.laid (t' := tk') old M.dbig ob
    refine ⟨e, oe, fv, ⟨G', g, dr, tk', os⟩, _, .ref C, some d, rfl, J, fun b o q => ?_, ge, hoe, ⟨hc, hd⟩, hdat, h1, ?_, rfl, I1.bare, raises_own T.exC T.tyC, q1 d (I1.hok.fresh M.dbig)⟩
    · by_cases hb : b = e
      · have q' : G'.get? b = some o := q
        rw [hb, ge] at q'; cases q'
      · exact (gk b hb).symm.trans q
    · rw [upd_ne (Ne.symm M.dne)]
      exact I1.hok.fresh M.new
/-- raise Low(e) -/
def tRaiseLow_BadErrand (C : Addr) (W : WX) (ta : TA) : TS := fun _ σ H => tMkLow_BadErrand C ta σ H fun cls d H' => W cls d σ H'
theorem ps_raiseLow_BadErrand {a : Expr} {ta : TA} {W : WX} {p pos pos2 : Pos} {k : Nat} (hc : X.calm = true) (T : PySem.ErrBadErrand.LowTxt X.K X.mg C fI) (hr : Room k X.A) (tk : Takes X W) (ha : PA X [a] ta) (hg : Gl X "BadErrand" := by rfl)
    (he : starEach (a :: []) X.env = (false, eval a X.env) :: starEach [] X.env := by rfl) (hpl : (backTo pos (starEach [] X.env)).any (·.1) = false := by rfl) :
    PS X (.Raise (some (.Call (.Name "BadErrand" p) [a] [] pos)) none pos2) (tRaiseLow_BadErrand C W ta) := ps_raise hc tk (pmk_low_BadErrand T hr ha hg he hpl)
/-- low.by, low the exception that the suite holds (at a; its class cls, its dict d) -/
def tByLow_BadErrand (C : Addr) (a : Addr) (cls : Value) (d : Option Addr) (te : TE) : TE := fun σ H Q => te σ H fun x H1 => x = .ref a ∧ cls = .ref C ∧ ∃ (dd : Addr) (v : V), d = some dd ∧ H1 dd = some (.xd [(("index" : Str), v)]) ∧ Q v H1
theorem pe_byLow_BadErrand {a : Addr} {oe : Obj} {cls : Value} {d : Option Addr} {pn : List (Addr × Obj)} {e : Expr} {te : TE} {pos : Pos} (T : PySem.ErrBadErrand.LowTxt X.K X.mg C fI) (hz : Zc cls d oe) (hf : ∃ vs, oe.data = .fields vs) (he : PE (X.suite a ((a, oe) :: pn)) e te)
    (hb : attributeBase e "index" X.env (eval e X.env) = eval e X.env := by rfl) :
    PE (X.suite a ((a, oe) :: pn)) (.Attribute e "index" pos) (tByLow_BadErrand C a cls d te) := by
  refine ⟨fun pins s σ H Q I h => ?_⟩
  refine attr_of hb (thn (he.run pins s σ H _ I h) fun u s1 hh => ?_)
  obtain ⟨x, H1, I1, rx, ex, ec, dd, v, ed, ea, q⟩ := hh
  subst ex
  obtain rfl : u = Value.ref a := rx
  subst ec
  subst ed
  obtain ⟨ha, _⟩ := I1.pin (a, oe) (List.mem_append_left _ List.mem_cons_self)
  obtain ⟨vs, hd⟩ := hf
  have hx : ObjOk X.prog X.w H1 s1.heap dd (.xd [(("index" : Str), v)]) := I1.hok dd _ ea
  obtain ⟨mA, hns, hr⟩ := hx
  obtain ⟨od, ho, hl⟩ := lookIn_ns hns
  have l : List.lookup ("index" : Str) [(("index" : Str), v)] = some v := by simp [List.lookup]
  obtain ⟨u, hu, ru⟩ := RelO.some_of (v := v) (o := mA "index") (by rw [← l]; exact hr "index")
  have J : PySem.W.InstAt s1.heap a oe C (some od) := ⟨ha, hz.1, by unfold PySem.W.notCls; rw [hd] <;> rfl, by rw [hz.2]; exact ho⟩
  exact HandSPX.exc_get I1.kIn J T.ga T.gg T.exC (PySem.W.findObj_own T.hdC T.noN rfl (by rw [hl, hu])) (handed_of ru) ⟨v, H1, I1.tok _, ru, q⟩
end
end L2
namespace PySem
namespace ErrBadIndex
open PySem.W PySem.Calls PyProof.Rows PySem.HandSPX
def iA (p1 p2 : Pos) : Arguments := { posonlyargs := [], args := [{ arg := "self", annotation := none, pos := p1 }, { arg := "index", annotation := none, pos := p2 }], vararg := none, kwonlyargs := [], kw_defaults := [], kwarg := none, defaults := [] }
def iB (q1 q2 q3 q4 : Pos) : List Stmt := [.Assign [.Attribute (.Name "self" q1) "index" q2] (.Name "index" q3) q4]
def iS : Scope := { kind := .function, names := [(PySem.Str.ofString "self", .local), (PySem.Str.ofString "index", .local)], isGenerator := false, isCoroutine := false, more := [] }
/-- what the written part says of Low, at C, and of its __init__, at fI -/
structure LowTxt (K : Frag) (mg : Str → Option Value) (C fI : Addr) : Prop where
  gC : mg "BadIndex" = some (.ref C)
  cls : ∃ nm q N bs bm sn sub ab col dd k0 k1 k2 k3 k5, K.lookup C = some (excClassObj nm q C N bs bm true sn sub ab col dd k0 k1 k2 k3 k5 "ValueError.__new__") ∧ refsVE bm = true
  sa : findIn K (.ref C) "__setattr__" = some (some (.builtin "object.__setattr__"))
  ga : findIn K (.ref C) "__getattribute__" = some (some (.builtin "BaseException.__getattribute__"))
  gg : findIn K (.ref C) "__getattr__" = some none
  noN : findIn K (.ref C) "index" = some none
  iC : findIn K (.ref C) "__init__" = some (some (.ref fI))
  tC : typeIn K (.ref fI) = some (.type "function")
  kC : keepIn K (.ref C) = true
  exC : subIn K (.ref C) (.type "BaseException") = some true
  tyC : typeIn K (.ref C) = some (.type "type")
  hdC : hasDictIn K C = true
  te : exmOne K (.ref C) (.ref C) = some true
  fn : ∃ (oc : Value) (od : Option Addr) (doc pm : Value) (an : Option Addr) (cdv ct : Value) (osl : Array (Option Value)) (p1 p2 q1 q2 q3 q4 : Pos),
    K.lookup fI = some ⟨oc, od, .func (fnOf "__init__" "BadIndex.__init__" (iA p1 p2) (iB q1 q2 q3 q4) iS .none .none doc pm an cdv ct), osl⟩ ∧ codeIn K cdv "BadIndex.__init__" = true
theorem one_size (v : Value) : [v].length ≤ sizeLine := by
  rw [sizeLine_eq]
  exact (by decide : 1 ≤ 16777216)
theorem ldC {M : Model} {s : Shared} {name : Str} {scope : Scope} {L a : Addr} {cd : Value} {m : Str → Option Value} {x : Str} {pos : Pos} {v : Value} {Q : Value → Shared → Prop} {A : Around} {E : Value → Shared → Prop} (hn : s.heap.Ns L m) (hv : m x = some v) (h : Q v s)
    (hk : scope.kind = .function := by rfl) (hl : (envOfC name scope L a cd).kindOf x = some .local := by rfl) (hd : (x == ("__debug__" : Str)) = false := by decide) :
    wpAny M A (eval (.Name x pos) (envOfC name scope L a cd)) Q E s := wpAny_Name (wpAny_loadName_local hk hl hn hv h) hd
/-- what __init__ leaves of a fresh exception at x -/
structure InitEnd (h h' : Heap) (x C dx t1 : Addr) (v : Value) : Prop where
  keep : ∀ b o, b ≠ x → h.get? b = some o → h'.get? b = some o
  obj : h'.get? x = some { cls := .ref C, dict := some dx, data := .fields #[.ref t1, .none, .none, .none, .bool false, .none] }
  dbig : h.objs.size ≤ dx
  dne : dx ≠ x
  ns : h'.Ns1 dx (fun y => if y = "index" then some v else none)
/-- a made Low -/
structure OwnMade (h h' : Heap) (e C d : Addr) (v : Value) : Prop where
  keep : ∀ b o, h.get? b = some o → h'.get? b = some o
  new : h.objs.size ≤ e
  obj : ∃ oe vs, h'.get? e = some oe ∧ oe.cls = .ref C ∧ oe.dict = some d ∧ oe.data = .fields vs ∧ vs[1]? = some .none
  dbig : h.objs.size ≤ d
  dne : d ≠ e
  ns : h'.Ns1 d (fun y => if y = "index" then some v else none)
section
variable {prog : Program} {w : World} {A : Around} {E : Value → Shared → Prop} {R : Result → Shared → Prop} {s : Shared} {K : Frag} {mg : Str → Option Value} {C fI : Addr}
theorem low_init (T : LowTxt K mg C fI) {x t0 : Addr} {v : Value} (X : K.In s.heap) (hlim : s.heap.NoLimit) (hx : s.heap.get? x = some (excO C t0)) (hnx : K.lookup x = none) (hroom : A.depth < recursionLimit)
    (hq : ∀ h' tk dx, InitEnd s.heap h' x C dx t0 v → R (.ok (.ret .none)) { s with heap := h', toks := tk }) :
    codeAny (model prog w) A (.call (.ref fI) ⟨[.ref x, v], []⟩) R s := by
  obtain ⟨oc, od, doc, pm, an, cdv, ct, osl, p1, p2, q1, q2, q3, q4, ho, hcd⟩ := T.fn
  obtain ⟨nm, q, N, bs, bm, sn, sub, ab, col, dd, k0, k1, k2, k3, k5, hC, hbm⟩ := T.cls
  have hcl : clsIn K C = some { name := nm, bases := bs, mro := .ref C :: bm, ns := N, qualname := q, hasDict := true, slotNames := sn, subclasses := sub, abstract := ab, collection := col, hasDel := false } := by unfold clsIn; rw [hC] <;> rfl
  refine Att.call_fn (binds := [("self", .ref x), ("index", v)]) X hlim ho hcd hroom (BindsTo.of_eq (by first | rfl | with_unfolding_all rfl)) (by first | rfl | decide | with_unfolding_all rfl) (fun s₁ IC => ?_) rfl rfl rfl
  obtain ⟨h₁, tk₁, rfl⟩ := IC.toInCall.same
  have k : ∀ b o, s.heap.get? b = some o → h₁.get? b = some o := IC.toInCall.keep
  have hn := IC.toInCall.ns
  have hxL : s.heap.objs.size ≠ x := Nat.ne_of_gt (Heap.lt_size hx)
  have X₁ : K.In h₁ := X.keeps k
  have hx₁ := k _ _ hx
  -- self.by = by
  show wpAny _ _ (execs _ _) _ _ _
  refine wpAny_execs_cons (plainObj_wpAny_Assign_Attribute ?_)
  refine ldC (v := v) hn (by first | rfl | with_unfolding_all rfl | kernel_rfl) (ldC (v := .ref x) hn (by first | rfl | with_unfolding_all rfl | kernel_rfl) ?_)
  refine set_plain X₁ (ox := excO C t0) (od := none) ⟨hx₁, rfl, rfl, trivial⟩ T.sa ?_
  refine exc_osa X₁ hx₁ hcl (show refsVE (.ref C :: bm) = true from hbm) rfl T.noN (fun h₃ tk₃ dx k₃ dn dne hx₃ hn₃ => ?_)
  show wpAny _ _ (execs _ _) _ _ _
  have z : s.heap.objs.size < h₁.objs.size := hn.lt
  exact wpAny_execs_nil (hq h₃ tk₃ dx ⟨fun b o hb e => k₃ b o hb (k b o e), hx₃, Nat.le_of_lt (Nat.lt_of_lt_of_le z dn), dne, hn₃⟩)
theorem low_made (T : LowTxt K mg C fI) {v : Value} (X : K.In s.heap) (hlim : s.heap.NoLimit) (hroom : A.depth + 1 < recursionLimit)
    (hq : ∀ h' tk e d, OwnMade s.heap h' e C d v → R (.ok (.ret (.ref e))) { s with heap := h', toks := tk }) :
    codeAny (model prog w) A (.call (.ref C) ⟨[v], []⟩) R s := by
  obtain ⟨nm, q, N, bs, bm, sn, sub, ab, col, dd, k0, k1, k2, k3, k5, hC, hbm⟩ := T.cls
  obtain ⟨hp, g, dr, tk, os⟩ := s
  have k : ∀ b o, hp.get? b = some o → ((hp.push (kdv_tup [v])).push (excO C hp.objs.size)).get? b = some o := fun b o e => Heap.get?_push_of_some _ (Heap.get?_push_of_some _ e)
  have hget : ((hp.push (kdv_tup [v])).push (excO C hp.objs.size)).get? (hp.objs.size + 1) = some (excO C hp.objs.size) := by heap_get
  have hnx : K.lookup (hp.objs.size + 1) = none := by
    cases e : K.lookup (hp.objs.size + 1) with
    | none => rfl
    | some o =>
      have z : hp.get? (hp.objs.size + 1) = some o := X _ _ e
      exact absurd (Nat.lt_of_succ_lt (Heap.lt_size z)) (Nat.lt_irrefl _)
  refine call_own F.excBase_ValueError (fun X => refsVE_contains X bm hbm) (X _ _ hC) (looks_findIn X T.iC) (fun self => bind_fn X self T.tC) (one_size v) ?_
  refine low_init (s := ⟨(hp.push (kdv_tup [v])).push (excO C hp.objs.size), g, dr, tk, os⟩) T (X.keeps k) (hlim.keeps k) hget hnx ?_ fun h' tk' dx ⟨k', hx, dn, dne, hns⟩ => ?_
  · show A.depth + 1 < recursionLimit
    exact hroom
  · have old : ∀ b o, hp.get? b = some o → h'.get? b = some o := fun b o e => k' b o (Nat.ne_of_lt (Nat.lt_succ_of_lt (Heap.lt_size e))) (k b o e)
    have z : hp.objs.size + 1 + 1 ≤ dx := by
      first
        | (simpa only [Heap.size_push] using dn)
        | exact dn
        | (have q := dn; rw [Heap.size_push, Heap.size_push] at q; exact q)
    exact ⟨rfl, hq h' tk' (hp.objs.size + 1) dx ⟨old, Nat.le_succ _, ⟨_, _, hx, rfl, rfl, rfl, rfl⟩, Nat.le_trans (Nat.le_trans (Nat.le_succ _) (Nat.le_succ _)) z, dne, hns⟩⟩
end
end ErrBadIndex
end PySem
namespace L2
open PySem PySem.Spec PyProof.Rows
theorem relO_low_BadIndex {v : V} {v' : Value} (r : RelV v v') (f : Str) : RelO (List.lookup f [(("index" : Str), v)]) (if f = "index" then some v' else none) := by
  by_cases hw : f = "index"
  · subst hw
    rw [if_pos rfl]
    have q : List.lookup ("index" : Str) [(("index" : Str), v)] = some v := by simp [List.lookup]
    rw [q]
    exact r
  · rw [if_neg hw]
    have qw : (f == ("index" : Str)) = false := by simpa using hw
    have q2 : List.lookup f [(("index" : Str), v)] = none := by simp [List.lookup, qw]
    rw [q2]
    trivial
section
variable {X : Cx} {C fI : Addr}
/-- Low(e) -/
def tMkLow_BadIndex (C : Addr) (ta : TA) : St → Hp → XK → Prop := fun σ H Q => ta σ H fun vs H1 => ∃ v, vs = [v] ∧ ∀ d, H1 d = none → Q (.ref C) (some d) (upd H1 d (.xd [(("index" : Str), v)]))
theorem pmk_low_BadIndex {a : Expr} {ta : TA} {p pos : Pos} {k : Nat} (T : PySem.ErrBadIndex.LowTxt X.K X.mg C fI) (hr : Room k X.A) (ha : PA X [a] ta) (hg : Gl X "BadIndex" := by rfl)
    (he : starEach (a :: []) X.env = (false, eval a X.env) :: starEach [] X.env := by rfl) (hpl : (backTo pos (starEach [] X.env)).any (·.1) = false := by rfl) :
    PMk X (.Call (.Name "BadIndex" p) [a] [] pos) (tMkLow_BadIndex C ta) := by
  intro pins s σ H Q I h
  refine wpAny_Call_Name_kw (ld_glob I hg T.gC ?_)
  refine PySem.W.callWith_K (h₀ := X.base) I.ok.mod.kin T.kC (thn (ha.run pos pins s σ H _ I h) fun us s1 hh => ?_) he hpl
  obtain ⟨vs, H1, I1, r1, v, ev, q1⟩ := hh
  subst ev
  refine ⟨I1.kIn, ?_⟩
  cases r1 with
  | cons rv rn =>
    rename_i v' us'
    cases rn
    show wpAny _ _ (call (.ref C) [v']) _ _ _
    have hlim := I1.nolimit
    obtain ⟨hp, g, dr, tk, os⟩ := s1
    refine wpAny_call (PySem.ErrBadIndex.low_made T I1.kIn hlim (by have := hr.dp; omega) fun h' tk' e d M => ?_)
    show MkP X pins σ Q (.ref e) ⟨h', g, dr, tk', os⟩
    obtain ⟨oe, fv, hoe, hc, hd, hdat, h1⟩ := M.obj
    have hns := M.ns
    obtain ⟨G', g1, g2⟩ := restrict h' fun b => decide (b ≠ e)
    have gk : ∀ b, b ≠ e → G'.get? b = h'.get? b := fun b hb => g1 b (decide_eq_true hb)
    have ge : G'.get? e = none := g2 e (by simp)
    have old : ∀ b o, hp.get? b = some o → G'.get? b = some o := fun b o q => (gk b (Nat.ne_of_lt (Nat.lt_of_lt_of_le (Heap.lt_size q) M.new))).trans (M.keep b o q)
    have ob : ObjOk X.prog X.w (upd H1 d (.xd [(("index" : Str), v)])) G' d (.xd [(("index" : Str), v)]) :=
      ⟨_, hns.at (fun o q => (gk d M.dne).trans q), fun f => relO_low_BadIndex rv f⟩
    have J : Inv X pins σ (upd H1 d (.xd [(("index" : Str), v)])) ⟨G', g, dr, tk', os⟩ := I1.laid (t' := tk') old M.dbig ob
    refine ⟨e, oe, fv, ⟨G', g, dr, tk', os⟩, _, .ref C, some d, rfl, J, fun b o q => ?_, ge, hoe, ⟨hc, hd⟩, hdat, h1, ?_, rfl, I1.bare, raises_own T.exC T.tyC, q1 d (I1.hok.fresh M.dbig)⟩
    · by_cases hb : b = e
      · have q' : G'.get? b = some o := q
        rw [hb, ge] at q'; cases q'
      · exact (gk b hb).symm.trans q
    · rw [upd_ne (Ne.symm M.dne)]
      exact I1.hok.fresh M.new
/-- raise Low(e) -/
def tRaiseLow_BadIndex (C : Addr) (W : WX) (ta : TA) : TS := fun _ σ H => tMkLow_BadIndex C ta σ H fun cls d H' => W cls d σ H'
theorem ps_raiseLow_BadIndex {a : Expr} {ta : TA} {W : WX} {p pos pos2 : Pos} {k : Nat} (hc : X.calm = true) (T : PySem.ErrBadIndex.LowTxt X.K X.mg C fI) (hr : Room k X.A) (tk : Takes X W) (ha : PA X [a] ta) (hg : Gl X "BadIndex" := by rfl)
    (he : starEach (a :: []) X.env = (false, eval a X.env) :: starEach [] X.env := by rfl) (hpl : (backTo pos (starEach [] X.env)).any (·.1) = false := by rfl) :
    PS X (.Raise (some (.Call (.Name "BadIndex" p) [a] [] pos)) none pos2) (tRaiseLow_BadIndex C W ta) := ps_raise hc tk (pmk_low_BadIndex T hr ha hg he hpl)
/-- low.by, low the exception that the suite holds (at a; its class cls, its dict d) -/
def tByLow_BadIndex (C : Addr) (a : Addr) (cls : Value) (d : Option Addr) (te : TE) : TE := fun σ H Q => te σ H fun x H1 => x = .ref a ∧ cls = .ref C ∧ ∃ (dd : Addr) (v : V), d = some dd ∧ H1 dd = some (.xd [(("index" : Str), v)]) ∧ Q v H1
theorem pe_byLow_BadIndex {a : Addr} {oe : Obj} {cls : Value} {d : Option Addr} {pn : List (Addr × Obj)} {e : Expr} {te : TE} {pos : Pos} (T : PySem.ErrBadIndex.LowTxt X.K X.mg C fI) (hz : Zc cls d oe) (hf : ∃ vs, oe.data = .fields vs) (he : PE (X.suite a ((a, oe) :: pn)) e te)
    (hb : attributeBase e "index" X.env (eval e X.env) = eval e X.env := by rfl) :
    PE (X.suite a ((a, oe) :: pn)) (.Attribute e "index" pos) (tByLow_BadIndex C a cls d te) := by
  refine ⟨fun pins s σ H Q I h => ?_⟩
  refine attr_of hb (thn (he.run pins s σ H _ I h) fun u s1 hh => ?_)
  obtain ⟨x, H1, I1, rx, ex, ec, dd, v, ed, ea, q⟩ := hh
  subst ex
  obtain rfl : u = Value.ref a := rx
  subst ec
  subst ed
  obtain ⟨ha, _⟩ := I1.pin (a, oe) (List.mem_append_left _ List.mem_cons_self)
  obtain ⟨vs, hd⟩ := hf
  have hx : ObjOk X.prog X.w H1 s1.heap dd (.xd [(("index" : Str), v)]) := I1.hok dd _ ea
  obtain ⟨mA, hns, hr⟩ := hx
  obtain ⟨od, ho, hl⟩ := lookIn_ns hns
  have l : List.lookup ("index" : Str) [(("index" : Str), v)] = some v := by simp [List.lookup]
  obtain ⟨u, hu, ru⟩ := RelO.some_of (v := v) (o := mA "index") (by rw [← l]; exact hr "index")
  have J : PySem.W.InstAt s1.heap a oe C (some od) := ⟨ha, hz.1, by unfold PySem.W.notCls; rw [hd] <;> rfl, by rw [hz.2]; exact ho⟩
  exact HandSPX.exc_get I1.kIn J T.ga T.gg T.exC (PySem.W.findObj_own T.hdC T.noN rfl (by rw [hl, hu])) (handed_of ru) ⟨v, H1, I1.tok _, ru, q⟩
end
end L2
namespace PySem
namespace ErrBadOrder
open PySem.W PySem.Calls PyProof.Rows PySem.HandSPX
def iA (p1 p2 : Pos) : Arguments := { posonlyargs := [], args := [{ arg := "self", annotation := none, pos := p1 }, { arg := "name", annotation := none, pos := p2 }], vararg := none, kwonlyargs := [], kw_defaults := [], kwarg := none, defaults := [] }
def iB (q1 q2 q3 q4 : Pos) : List Stmt := [.Assign [.Attribute (.Name "self" q1) "name" q2] (.Name "name" q3) q4]
def iS : Scope := { kind := .function, names := [(PySem.Str.ofString "self", .local), (PySem.Str.ofString "name", .local)], isGenerator := false, isCoroutine := false, more := [] }
/-- what the written part says of Low, at C, and of its __init__, at fI -/
structure LowTxt (K : Frag) (mg : Str → Option Value) (C fI : Addr) : Prop where
  gC : mg "BadOrder" = some (.ref C)
  cls : ∃ nm q N bs bm sn sub ab col dd k0 k1 k2 k3 k5, K.lookup C = some (excClassObj nm q C N bs bm true sn sub ab col dd k0 k1 k2 k3 k5 "ValueError.__new__") ∧ refsVE bm = true
  sa : findIn K (.ref C) "__setattr__" = some (some (.builtin "object.__setattr__"))
  ga : findIn K (.ref C) "__getattribute__" = some (some (.builtin "BaseException.__getattribute__"))
  gg : findIn K (.ref C) "__getattr__" = some none
  noN : findIn K (.ref C) "name" = some none
  iC : findIn K (.ref C) "__init__" = some (some (.ref fI))
  tC : typeIn K (.ref fI) = some (.type "function")
  kC : keepIn K (.ref C) = true
  exC : subIn K (.ref C) (.type "BaseException") = some true
  tyC : typeIn K (.ref C) = some (.type "type")
  hdC : hasDictIn K C = true
  te : exmOne K (.ref C) (.ref C) = some true
  fn : ∃ (oc : Value) (od : Option Addr) (doc pm : Value) (an : Option Addr) (cdv ct : Value) (osl : Array (Option Value)) (p1 p2 q1 q2 q3 q4 : Pos),
    K.lookup fI = some ⟨oc, od, .func (fnOf "__init__" "BadOrder.__init__" (iA p1 p2) (iB q1 q2 q3 q4) iS .none .none doc pm an cdv ct), osl⟩ ∧ codeIn K cdv "BadOrder.__init__" = true
end ErrBadOrder
end PySem
namespace L2
open PySem PySem.Spec PyProof.Rows
section
variable {X : Cx} {C fI : Addr}
/-- low.by, low the exception that the suite holds (at a; its class cls, its dict d) -/
def tByLow_BadOrder (C : Addr) (a : Addr) (cls : Value) (d : Option Addr) (te : TE) : TE := fun σ H Q => te σ H fun x H1 => x = .ref a ∧ cls = .ref C ∧ ∃ (dd : Addr) (v : V), d = some dd ∧ H1 dd = some (.xd [(("name" : Str), v)]) ∧ Q v H1
theorem pe_byLow_BadOrder {a : Addr} {oe : Obj} {cls : Value} {d : Option Addr} {pn : List (Addr × Obj)} {e : Expr} {te : TE} {pos : Pos} (T : PySem.ErrBadOrder.LowTxt X.K X.mg C fI) (hz : Zc cls d oe) (hf : ∃ vs, oe.data = .fields vs) (he : PE (X.suite a ((a, oe) :: pn)) e te)
    (hb : attributeBase e "name" X.env (eval e X.env) = eval e X.env := by rfl) :
    PE (X.suite a ((a, oe) :: pn)) (.Attribute e "name" pos) (tByLow_BadOrder C a cls d te) := by
  refine ⟨fun pins s σ H Q I h => ?_⟩
  refine attr_of hb (thn (he.run pins s σ H _ I h) fun u s1 hh => ?_)
  obtain ⟨x, H1, I1, rx, ex, ec, dd, v, ed, ea, q⟩ := hh
  subst ex
  obtain rfl : u = Value.ref a := rx
  subst ec
  subst ed
  obtain ⟨ha, _⟩ := I1.pin (a, oe) (List.mem_append_left _ List.mem_cons_self)
  obtain ⟨vs, hd⟩ := hf
  have hx : ObjOk X.prog X.w H1 s1.heap dd (.xd [(("name" : Str), v)]) := I1.hok dd _ ea
  obtain ⟨mA, hns, hr⟩ := hx
  obtain ⟨od, ho, hl⟩ := lookIn_ns hns
  have l : List.lookup ("name" : Str) [(("name" : Str), v)] = some v := by simp [List.lookup]
  obtain ⟨u, hu, ru⟩ := RelO.some_of (v := v) (o := mA "name") (by rw [← l]; exact hr "name")
  have J : PySem.W.InstAt s1.heap a oe C (some od) := ⟨ha, hz.1, by unfold PySem.W.notCls; rw [hd] <;> rfl, by rw [hz.2]; exact ho⟩
  exact HandSPX.exc_get I1.kIn J T.ga T.gg T.exC (PySem.W.findObj_own T.hdC T.noN rfl (by rw [hl, hu])) (handed_of ru) ⟨v, H1, I1.tok _, ru, q⟩
end
end L2
namespace PySem
namespace ErrNoWay
open PySem.W PySem.Calls PyProof.Rows PySem.HandSPX
def iA (p1 p2 : Pos) : Arguments := { posonlyargs := [], args := [{ arg := "self", annotation := none, pos := p1 }, { arg := "pair", annotation := none, pos := p2 }], vararg := none, kwonlyargs := [], kw_defaults := [], kwarg := none, defaults := [] }
def iB (q1 q2 q3 q4 : Pos) : List Stmt := [.Assign [.Attribute (.Name "self" q1) "pair" q2] (.Name "pair" q3) q4]
def iS : Scope := { kind := .function, names := [(PySem.Str.ofString "self", .local), (PySem.Str.ofString "pair", .local)], isGenerator := false, isCoroutine := false, more := [] }
/-- what the written part says of Low, at C, and of its __init__, at fI -/
structure LowTxt (K : Frag) (mg : Str → Option Value) (C fI : Addr) : Prop where
  gC : mg "NoWay" = some (.ref C)
  cls : ∃ nm q N bs bm sn sub ab col dd k0 k1 k2 k3 k5, K.lookup C = some (excClassObj nm q C N bs bm true sn sub ab col dd k0 k1 k2 k3 k5 "ValueError.__new__") ∧ refsVE bm = true
  sa : findIn K (.ref C) "__setattr__" = some (some (.builtin "object.__setattr__"))
  ga : findIn K (.ref C) "__getattribute__" = some (some (.builtin "BaseException.__getattribute__"))
  gg : findIn K (.ref C) "__getattr__" = some none
  noN : findIn K (.ref C) "pair" = some none
  iC : findIn K (.ref C) "__init__" = some (some (.ref fI))
  tC : typeIn K (.ref fI) = some (.type "function")
  kC : keepIn K (.ref C) = true
  exC : subIn K (.ref C) (.type "BaseException") = some true
  tyC : typeIn K (.ref C) = some (.type "type")
  hdC : hasDictIn K C = true
  te : exmOne K (.ref C) (.ref C) = some true
  fn : ∃ (oc : Value) (od : Option Addr) (doc pm : Value) (an : Option Addr) (cdv ct : Value) (osl : Array (Option Value)) (p1 p2 q1 q2 q3 q4 : Pos),
    K.lookup fI = some ⟨oc, od, .func (fnOf "__init__" "NoWay.__init__" (iA p1 p2) (iB q1 q2 q3 q4) iS .none .none doc pm an cdv ct), osl⟩ ∧ codeIn K cdv "NoWay.__init__" = true
end ErrNoWay
end PySem
namespace L2
open PySem PySem.Spec PyProof.Rows
section
variable {X : Cx} {C fI : Addr}
/-- low.by, low the exception that the suite holds (at a; its class cls, its dict d) -/
def tByLow_NoWay (C : Addr) (a : Addr) (cls : Value) (d : Option Addr) (te : TE) : TE := fun σ H Q => te σ H fun x H1 => x = .ref a ∧ cls = .ref C ∧ ∃ (dd : Addr) (v : V), d = some dd ∧ H1 dd = some (.xd [(("pair" : Str), v)]) ∧ Q v H1
theorem pe_byLow_NoWay {a : Addr} {oe : Obj} {cls : Value} {d : Option Addr} {pn : List (Addr × Obj)} {e : Expr} {te : TE} {pos : Pos} (T : PySem.ErrNoWay.LowTxt X.K X.mg C fI) (hz : Zc cls d oe) (hf : ∃ vs, oe.data = .fields vs) (he : PE (X.suite a ((a, oe) :: pn)) e te)
    (hb : attributeBase e "pair" X.env (eval e X.env) = eval e X.env := by rfl) :
    PE (X.suite a ((a, oe) :: pn)) (.Attribute e "pair" pos) (tByLow_NoWay C a cls d te) := by
  refine ⟨fun pins s σ H Q I h => ?_⟩
  refine attr_of hb (thn (he.run pins s σ H _ I h) fun u s1 hh => ?_)
  obtain ⟨x, H1, I1, rx, ex, ec, dd, v, ed, ea, q⟩ := hh
  subst ex
  obtain rfl : u = Value.ref a := rx
  subst ec
  subst ed
  obtain ⟨ha, _⟩ := I1.pin (a, oe) (List.mem_append_left _ List.mem_cons_self)
  obtain ⟨vs, hd⟩ := hf
  have hx : ObjOk X.prog X.w H1 s1.heap dd (.xd [(("pair" : Str), v)]) := I1.hok dd _ ea
  obtain ⟨mA, hns, hr⟩ := hx
  obtain ⟨od, ho, hl⟩ := lookIn_ns hns
  have l : List.lookup ("pair" : Str) [(("pair" : Str), v)] = some v := by simp [List.lookup]
  obtain ⟨u, hu, ru⟩ := RelO.some_of (v := v) (o := mA "pair") (by rw [← l]; exact hr "pair")
  have J : PySem.W.InstAt s1.heap a oe C (some od) := ⟨ha, hz.1, by unfold PySem.W.notCls; rw [hd] <;> rfl, by rw [hz.2]; exact ho⟩
  exact HandSPX.exc_get I1.kIn J T.ga T.gg T.exC (PySem.W.findObj_own T.hdC T.noN rfl (by rw [hl, hu])) (handed_of ru) ⟨v, H1, I1.tok _, ru, q⟩
end
end L2
set_option maxHeartbeats 4000000
namespace Mp
open PySem L2 PyProof.Rows
variable [TabsW] [GdW]
def top (i : Nat) : Stmt := PySem.Challenge.pw_risingday_k16_people_told_and_refused.main.body.getD i (.Pass ⟨0, 0, 0, 0⟩)
def inTop (i j : Nat) : Stmt := match top i with
  | .ClassDef _ _ _ body _ _ _ _ _ _ _ => body.getD j (.Pass ⟨0, 0, 0, 0⟩)
  | _ => .Pass ⟨0, 0, 0, 0⟩
section
variable {P : Program} {w : World} {K : PySem.W.Frag} {mg : Str → Option Value} {base : Heap}
def b_is_whole : List ST := [.ret (.and_ (.isin (.v 0) [.int]) (.not_ (.isin (.v 0) [.bool])))]
def g_is_whole : Ctx := ⟨[], [], [], ["Person"], []⟩
def f_is_whole : Fn := ⟨1, none, semB g_is_whole 1 none b_is_whole⟩
theorem sc_is_whole : FnScope ["value"] ["value"] (defScope (top 14)) := ⟨rfl, rfl, rfl, by decide +kernel, rfl, by decide +kernel, by decide +kernel⟩
theorem ok_is_whole {f : Addr} {fd : FuncData} (F : Fun K "is_whole" "is_whole" (top 14) f fd) (z_isinstance : mg "isinstance" = none) (z_int : mg "int" = none) (z_bool : mg "bool" = none) (hC : ∀ C, C ∈ (["Person"] : List Str) → IsC K C) (K_int : IsK K ["Person"] .int (.type "int")) (K_bool : IsK K ["Person"] .bool (.type "bool")) :
    FnOk P w K mg base (L2.CX P w) 1 f fd ["value"] (spF K 1 none (semB g_is_whole 1 none b_is_whole)) :=
  have S := sc_is_whole
  fn_body F S (by decide) fun cdv A outer s H E hr =>
    (ss_cons (st_ret (e_and (e_isin1 hC K_int (.ty "int") (e_v (i := 0) rfl (by first | exact .inl rfl | exact .inr (.inl rfl) | exact .inr (.inr rfl)) (by decide) (by decide)) (pe_bltn rfl z_int (by decide +kernel) rfl) rfl z_isinstance rfl rfl) (pe_one (e_not (e_isin1 hC K_bool (.ty "bool") (e_v (i := 0) rfl (by first | exact .inl rfl | exact .inr (.inl rfl) | exact .inr (.inr rfl)) (by decide) (by decide)) (pe_bltn rfl z_bool (by decide +kernel) rfl) rfl z_isinstance rfl rfl))))) ss_nil)
def b_is_between : List ST := [.ret (.and_ (.call 0 [.v 0]) (.chn .le .le (.v 1) (.v 0) (.v 2)))]
def g_is_between : Ctx := ⟨[f_is_whole], [], [], ["Person"], []⟩
def f_is_between : Fn := ⟨3, none, semB g_is_between 3 none b_is_between⟩
theorem cl_is_between_0 {a0 : IR} {env : Env} : ev g_is_between (.call 0 [a0]) env = (evs g_is_between [a0] env).bind fun ds e1 => runF e1 (f_is_whole.sem ds) := ev_call rfl rfl rfl
theorem sc_is_between : FnScope ["value", "low", "high"] ["value", "low", "high"] (defScope (top 15)) := ⟨rfl, rfl, rfl, by decide +kernel, rfl, by decide +kernel, by decide +kernel⟩
theorem ok_is_between {f : Addr} {fd : FuncData} (F : Fun K "is_between" "is_between" (top 15) f fd) (F_is_whole : FnF P w K mg base 1 "is_whole" f_is_whole) :
    FnOk P w K mg base (L2.CX P w) 2 f fd ["value", "low", "high"] (spF K 3 none (semB g_is_between 3 none b_is_between)) :=
  have S := sc_is_between
  fn_body F S (by decide) fun cdv A outer s H E hr =>
    (ss_cons (st_ret (e_and (e_call F_is_whole rfl (hr.mono (by decide)) (takes_of rfl rfl rfl rfl) rfl (aa_cons (e_v (i := 0) rfl (by first | exact .inl rfl | exact .inr (.inl rfl) | exact .inr (.inr rfl)) (by decide) (by decide)) aa_nil rfl) rfl) (pe_one (e_chn op_le op_le s_le s_le (e_v (i := 1) rfl (by first | exact .inl rfl | exact .inr (.inl rfl) | exact .inr (.inr rfl)) (by decide) (by decide)) (e_v (i := 0) rfl (by first | exact .inl rfl | exact .inr (.inl rfl) | exact .inr (.inr rfl)) (by decide) (by decide)) (e_v (i := 2) rfl (by first | exact .inl rfl | exact .inr (.inl rfl) | exact .inr (.inr rfl)) (by decide) (by decide)) rfl)))) ss_nil)
def b_is_told_minute : List ST := [.ret (.call 0 [.v 0, .c (.int 0), .c (.int 9999)])]
def g_is_told_minute : Ctx := ⟨[f_is_between], [], [], ["Person"], []⟩
def f_is_told_minute : Fn := ⟨1, none, semB g_is_told_minute 1 none b_is_told_minute⟩
theorem sc_is_told_minute : FnScope ["value"] ["value"] (defScope (top 16)) := ⟨rfl, rfl, rfl, by decide +kernel, rfl, by decide +kernel, by decide +kernel⟩
theorem ok_is_told_minute {f : Addr} {fd : FuncData} (F : Fun K "is_told_minute" "is_told_minute" (top 16) f fd) (F_is_between : FnF P w K mg base 2 "is_between" f_is_between) {t_LAST_MINUTE : Nat} (c_LAST_MINUTE : mg "LAST_MINUTE" = some (.int 9999 t_LAST_MINUTE)) :
    FnOk P w K mg base (L2.CX P w) 3 f fd ["value"] (spF K 1 none (semB g_is_told_minute 1 none b_is_told_minute)) :=
  have S := sc_is_told_minute
  fn_body F S (by decide) fun cdv A outer s H E hr =>
    (ss_cons (st_ret (e_call F_is_between rfl (hr.mono (by decide)) (takes_of rfl rfl rfl rfl) rfl (aa_cons (e_v (i := 0) rfl (by first | exact .inl rfl | exact .inr (.inl rfl) | exact .inr (.inr rfl)) (by decide) (by decide)) (aa_cons xi (aa_cons (xg c_LAST_MINUTE rfl (by decide)) aa_nil rfl) rfl) rfl) rfl)) ss_nil)
def b_is_told_length : List ST := [.ret (.call 0 [.v 0, .c (.int 0), .c (.int 600)])]
def g_is_told_length : Ctx := ⟨[f_is_between], [], [], ["Person"], []⟩
def f_is_told_length : Fn := ⟨1, none, semB g_is_told_length 1 none b_is_told_length⟩
theorem sc_is_told_length : FnScope ["value"] ["value"] (defScope (top 17)) := ⟨rfl, rfl, rfl, by decide +kernel, rfl, by decide +kernel, by decide +kernel⟩
theorem ok_is_told_length {f : Addr} {fd : FuncData} (F : Fun K "is_told_length" "is_told_length" (top 17) f fd) (F_is_between : FnF P w K mg base 2 "is_between" f_is_between) {t_LONGEST : Nat} (c_LONGEST : mg "LONGEST" = some (.int 600 t_LONGEST)) :
    FnOk P w K mg base (L2.CX P w) 3 f fd ["value"] (spF K 1 none (semB g_is_told_length 1 none b_is_told_length)) :=
  have S := sc_is_told_length
  fn_body F S (by decide) fun cdv A outer s H E hr =>
    (ss_cons (st_ret (e_call F_is_between rfl (hr.mono (by decide)) (takes_of rfl rfl rfl rfl) rfl (aa_cons (e_v (i := 0) rfl (by first | exact .inl rfl | exact .inr (.inl rfl) | exact .inr (.inr rfl)) (by decide) (by decide)) (aa_cons xi (aa_cons (xg c_LONGEST rfl (by decide)) aa_nil rfl) rfl) rfl) rfl)) ss_nil)
def b_is_listed : List ST := [.ret (.isin (.v 0) [.list, .tuple])]
def g_is_listed : Ctx := ⟨[], [], [], ["Person"], []⟩
def f_is_listed : Fn := ⟨1, none, semB g_is_listed 1 none b_is_listed⟩
theorem sc_is_listed : FnScope ["value"] ["value"] (defScope (top 18)) := ⟨rfl, rfl, rfl, by decide +kernel, rfl, by decide +kernel, by decide +kernel⟩
theorem ok_is_listed {f : Addr} {fd : FuncData} (F : Fun K "is_listed" "is_listed" (top 18) f fd) (z_isinstance : mg "isinstance" = none) (z_list : mg "list" = none) (z_tuple : mg "tuple" = none) (hC : ∀ C, C ∈ (["Person"] : List Str) → IsC K C) (K_list : IsK K ["Person"] .list (.type "list")) (K_tuple : IsK K ["Person"] .tuple (.type "tuple")) :
    FnOk P w K mg base (L2.CX P w) 1 f fd ["value"] (spF K 1 none (semB g_is_listed 1 none b_is_listed)) :=
  have S := sc_is_listed
  fn_body F S (by decide) fun cdv A outer s H E hr =>
    (ss_cons (st_ret (e_isin2 hC K_list K_tuple (.ty "list") (.ty "tuple") (e_v (i := 0) rfl (by first | exact .inl rfl | exact .inr (.inl rfl) | exact .inr (.inr rfl)) (by decide) (by decide)) (pe_bltn rfl z_list (by decide +kernel) rfl) (pe_bltn rfl z_tuple (by decide +kernel) rfl) rfl z_isinstance rfl rfl rfl)) ss_nil)
def b_is_name : List ST := [.ret (.and_ (.isin (.v 0) [.str]) (.and_ (.chn .le .le (.c (.int 1)) (.blt .len [.v 0]) (.c (.int 8))) (.blt .all [.lc (.name 1) (.txt (.v 0)) none (.cmp .in_ (.v 1) (.c (.str "abcdefghijklmnopqrstuvwxyz"))) [1]])))]
def g_is_name : Ctx := ⟨[], [], [], ["Person"], []⟩
def f_is_name : Fn := ⟨1, none, semB g_is_name 2 none b_is_name⟩
theorem sc_is_name : FnScope ["value", "letter"] ["value"] (defScope (top 19)) := ⟨rfl, rfl, rfl, by decide +kernel, rfl, by decide +kernel, by decide +kernel⟩
theorem ok_is_name {f : Addr} {fd : FuncData} (F : Fun K "is_name" "is_name" (top 19) f fd) {t_LETTERS : Nat} (c_LETTERS : mg "LETTERS" = some (.str "abcdefghijklmnopqrstuvwxyz" t_LETTERS)) (z_isinstance : mg "isinstance" = none) (z_str : mg "str" = none) (z_len : mg "len" = none) (z_all : mg "all" = none) (hC : ∀ C, C ∈ (["Person"] : List Str) → IsC K C) (K_str : IsK K ["Person"] .str (.type "str")) :
    FnOk P w K mg base (L2.CX P w) 1 f fd ["value"] (spF K 1 none (semB g_is_name 2 none b_is_name)) :=
  have S := sc_is_name
  fn_body F S (by decide) fun cdv A outer s H E hr =>
    (ss_cons (st_ret (e_and (e_isin1 hC K_str (.ty "str") (e_v (i := 0) rfl (by first | exact .inl rfl | exact .inr (.inl rfl) | exact .inr (.inr rfl)) (by decide) (by decide)) (pe_bltn rfl z_str (by decide +kernel) rfl) rfl z_isinstance rfl rfl) (e_and (e_chn op_le op_le s_le s_le xi (b_len z_len rfl (e_v (i := 0) rfl (by first | exact .inl rfl | exact .inr (.inl rfl) | exact .inr (.inr rfl)) (by decide) (by decide)) rfl) xi rfl) (pe_one (b_all rfl z_all rfl (e_lc (own := [("letter", 1)]) rfl S.nd (i_txt (e_v (i := 0) rfl (by first | exact .inl rfl | exact .inr (.inl rfl) | exact .inr (.inr rfl)) (by decide) (by decide))) (blkOk_by (N := ["value", "letter"]) (sc := defScope (top 19)) (by decide +kernel)) (fun _ _ _ _ _ => (pg_name (i := 1) S.nd rfl (by first | exact .inl rfl | exact .inr rfl) (by first | exact .inl rfl | exact .inr rfl))) (fun _ _ _ _ _ => pts_nil) (fun _ _ _ _ _ => (x_in (hu65 hr) (e_v (i := 1) rfl (by first | exact .inl rfl | exact .inr (.inl rfl) | exact .inr (.inr rfl)) (by decide) (by decide)) (xgs c_LETTERS rfl (by decide)) rfl)) (fun _ => rfl)) rfl))))) ss_nil)
def b_need_name_and_place : List ST := [.if_ (.not_ (.call 0 [.v 0])) [.raise "BadName" "name" (.v 0)] [], .if_ (.not_ (.call 0 [.v 1])) [.raise "BadPart" "part" (.v 2)] []]
def g_need_name_and_place : Ctx := ⟨[f_is_name], [], [], ["Person"], []⟩
def f_need_name_and_place : Fn := ⟨3, none, semB g_need_name_and_place 3 none b_need_name_and_place⟩
theorem sc_need_name_and_place : FnScope ["name", "place", "part"] ["name", "place", "part"] (defScope (top 21)) := ⟨rfl, rfl, rfl, by decide +kernel, rfl, by decide +kernel, by decide +kernel⟩
theorem ok_need_name_and_place {f : Addr} {fd : FuncData} (F : Fun K "need_name_and_place" "need_name_and_place" (top 21) f fd) {I_BadName : Addr} (T_BadName : PySem.ErrBadName.LowTxt K mg (clsAt K "BadName") I_BadName) {I_BadPart : Addr} (T_BadPart : PySem.ErrBadPart.LowTxt K mg (clsAt K "BadPart") I_BadPart) (F_is_name : FnF P w K mg base 1 "is_name" f_is_name) :
    FnOk P w K mg base (L2.CX P w) 2 f fd ["name", "place", "part"] (spF K 3 none (semB g_need_name_and_place 3 none b_need_name_and_place)) :=
  have S := sc_need_name_and_place
  fn_body F S (by decide) fun cdv A outer s H E hr =>
    (ss_cons (st_if (t_not (t_truth (e_call F_is_name rfl (hr.mono (by decide)) (takes_of rfl rfl rfl rfl) rfl (aa_cons (e_v (i := 0) rfl (by first | exact .inl rfl | exact .inr (.inl rfl) | exact .inr (.inr rfl)) (by decide) (by decide)) aa_nil rfl) rfl) (fun _ => rfl))) (ss_cons (st_raise (ps_raiseLow_BadName rfl T_BadName hr.r (takes_of rfl rfl rfl rfl) (as_cons (e_v (i := 0) rfl (by first | exact .inl rfl | exact .inr (.inl rfl) | exact .inr (.inr rfl)) (by decide) (by decide)) as_nil rfl))) ss_nil) ss_nil) (ss_cons (st_if (t_not (t_truth (e_call F_is_name rfl (hr.mono (by decide)) (takes_of rfl rfl rfl rfl) rfl (aa_cons (e_v (i := 1) rfl (by first | exact .inl rfl | exact .inr (.inl rfl) | exact .inr (.inr rfl)) (by decide) (by decide)) aa_nil rfl) rfl) (fun _ => rfl))) (ss_cons (st_raise (ps_raiseLow_BadPart rfl T_BadPart hr.r (takes_of rfl rfl rfl rfl) (as_cons (e_v (i := 2) rfl (by first | exact .inl rfl | exact .inr (.inl rfl) | exact .inr (.inr rfl)) (by decide) (by decide)) as_nil rfl))) ss_nil) ss_nil) ss_nil))
def b_is_errand : List ST := [.if_ (.or_ (.not_ (.isin (.v 0) [.tuple])) (.or_ (.cmp .lt (.blt .len [.v 0]) (.c (.int 2))) (.or_ (.not_ (.isin (.ix (.v 0) (.c (.int 0))) [.str])) (.not_ (.call 0 [.ix (.v 0) (.c (.int 1))]))))) [.ret (.c (.bl false))] [], .if_ (.cmp .eq (.ix (.v 0) (.c (.int 0))) (.c (.str "meet"))) [.ret (.cmp .eq (.blt .len [.v 0]) (.c (.int 2)))] [], .ret (.and_ (.cmp .eq (.blt .len [.v 0]) (.c (.int 3))) (.and_ (.cmp .in_ (.ix (.v 0) (.c (.int 0))) (.tup [.c (.str "stay"), .c (.str "counter"), .c (.str "room")])) (.call 1 [.ix (.v 0) (.c (.int 2))])))]
def g_is_errand : Ctx := ⟨[f_is_name, f_is_told_length], [], [], ["Person"], []⟩
def f_is_errand : Fn := ⟨1, none, semB g_is_errand 1 none b_is_errand⟩
theorem sc_is_errand : FnScope ["value"] ["value"] (defScope (top 23)) := ⟨rfl, rfl, rfl, by decide +kernel, rfl, by decide +kernel, by decide +kernel⟩
theorem ok_is_errand {f : Addr} {fd : FuncData} (F : Fun K "is_errand" "is_errand" (top 23) f fd) (F_is_name : FnF P w K mg base 1 "is_name" f_is_name) (F_is_told_length : FnF P w K mg base 3 "is_told_length" f_is_told_length) (z_isinstance : mg "isinstance" = none) (z_tuple : mg "tuple" = none) (z_len : mg "len" = none) (z_str : mg "str" = none) (hC : ∀ C, C ∈ (["Person"] : List Str) → IsC K C) (K_tuple : IsK K ["Person"] .tuple (.type "tuple")) (K_str : IsK K ["Person"] .str (.type "str")) :
    FnOk P w K mg base (L2.CX P w) 4 f fd ["value"] (spF K 1 none (semB g_is_errand 1 none b_is_errand)) :=
  have S := sc_is_errand
  fn_body F S (by decide) fun cdv A outer s H E hr =>
    (ss_cons (st_if (PW.pt (w_or (t_not (t_truth (e_isin1 hC K_tuple (.ty "tuple") (e_v (i := 0) rfl (by first | exact .inl rfl | exact .inr (.inl rfl) | exact .inr (.inr rfl)) (by decide) (by decide)) (pe_bltn rfl z_tuple (by decide +kernel) rfl) rfl z_isinstance rfl rfl) (fun _ => rfl))) (w_or (y_lt (b_len z_len rfl (e_v (i := 0) rfl (by first | exact .inl rfl | exact .inr (.inl rfl) | exact .inr (.inr rfl)) (by decide) (by decide)) rfl) xi) (w_or (t_not (t_truth (e_isin1 hC K_str (.ty "str") (e_ix (e_v (i := 0) rfl (by first | exact .inl rfl | exact .inr (.inl rfl) | exact .inr (.inr rfl)) (by decide) (by decide)) xi (fun _ _ => rfl)) (pe_bltn rfl z_str (by decide +kernel) rfl) rfl z_isinstance rfl rfl) (fun _ => rfl))) (w_or1 (t_not (t_truth (e_call F_is_name rfl (hr.mono (by decide)) (takes_of rfl rfl rfl rfl) rfl (aa_cons (e_ix (e_v (i := 0) rfl (by first | exact .inl rfl | exact .inr (.inl rfl) | exact .inr (.inr rfl)) (by decide) (by decide)) xi (fun _ _ => rfl)) aa_nil rfl) rfl) (fun _ => rfl)))))))) (ss_cons (st_ret xb) ss_nil) ss_nil) (ss_cons (st_if (y_eq (hu64 hr) (e_ix (e_v (i := 0) rfl (by first | exact .inl rfl | exact .inr (.inl rfl) | exact .inr (.inr rfl)) (by decide) (by decide)) xi (fun _ _ => rfl)) xs) (ss_cons (st_ret (x_eq (hu64 hr) (b_len z_len rfl (e_v (i := 0) rfl (by first | exact .inl rfl | exact .inr (.inl rfl) | exact .inr (.inr rfl)) (by decide) (by decide)) rfl) xi)) ss_nil) ss_nil) (ss_cons (st_ret (e_and (x_eq (hu64 hr) (b_len z_len rfl (e_v (i := 0) rfl (by first | exact .inl rfl | exact .inr (.inl rfl) | exact .inr (.inr rfl)) (by decide) (by decide)) rfl) xi) (e_and (x_in (hu65 hr) (e_ix (e_v (i := 0) rfl (by first | exact .inl rfl | exact .inr (.inl rfl) | exact .inr (.inr rfl)) (by decide) (by decide)) xi (fun _ _ => rfl)) (e_tup (as_cons xs (as_cons xs (as_cons xs as_nil rfl) rfl) rfl)) rfl) (pe_one (e_call F_is_told_length rfl (hr.mono (by decide)) (takes_of rfl rfl rfl rfl) rfl (aa_cons (e_ix (e_v (i := 0) rfl (by first | exact .inl rfl | exact .inr (.inl rfl) | exact .inr (.inr rfl)) (by decide) (by decide)) xi (fun _ _ => rfl)) aa_nil rfl) rfl))))) ss_nil)))
def b_need_errands : List ST := [.if_ (.or_ (.not_ (.call 0 [.v 0])) (.cmp .gt (.blt .len [.v 0]) (.c (.int 5)))) [.raise "BadPart" "part" (.c (.str "errands"))] [], .for_ (.tup [1, 2]) (.enum (.v 0)) [.if_ (.cmp .is_ (.v 2) (.c .non)) [.cont] [], .if_ (.or_ (.not_ (.call 1 [.v 2])) (.and_ (.cmp .eq (.ix (.v 2) (.c (.int 0))) (.c (.str "meet"))) (.cmp .in_ (.v 2) (.sl (.v 0) none (some (.v 1)))))) [.raise "BadErrand" "index" (.v 1)] []]]
def g_need_errands : Ctx := ⟨[f_is_listed, f_is_errand], [], [], ["Person"], []⟩
def f_need_errands : Fn := ⟨1, none, semB g_need_errands 3 none b_need_errands⟩
theorem cl_need_errands_0 {a0 : IR} {env : Env} : ev g_need_errands (.call 0 [a0]) env = (evs g_need_errands [a0] env).bind fun ds e1 => runF e1 (f_is_listed.sem ds) := ev_call rfl rfl rfl
theorem cl_need_errands_1 {a0 : IR} {env : Env} : ev g_need_errands (.call 1 [a0]) env = (evs g_need_errands [a0] env).bind fun ds e1 => runF e1 (f_is_errand.sem ds) := ev_call rfl rfl rfl
theorem sc_need_errands : FnScope ["errands", "index", "errand"] ["errands"] (defScope (top 24)) := ⟨rfl, rfl, rfl, by decide +kernel, rfl, by decide +kernel, by decide +kernel⟩
theorem ok_need_errands {f : Addr} {fd : FuncData} (F : Fun K "need_errands" "need_errands" (top 24) f fd) {I_BadPart : Addr} (T_BadPart : PySem.ErrBadPart.LowTxt K mg (clsAt K "BadPart") I_BadPart) {I_BadErrand : Addr} (T_BadErrand : PySem.ErrBadErrand.LowTxt K mg (clsAt K "BadErrand") I_BadErrand) (F_is_listed : FnF P w K mg base 1 "is_listed" f_is_listed) (F_is_errand : FnF P w K mg base 4 "is_errand" f_is_errand) (z_len : mg "len" = none) (z_enumerate : mg "enumerate" = none) :
    FnOk P w K mg base (L2.CX P w) 5 f fd ["errands"] (spF K 1 none (semB g_need_errands 3 none b_need_errands)) :=
  have S := sc_need_errands
  fn_body F S (by decide) fun cdv A outer s H E hr =>
    (ss_cons (st_if (PW.pt (w_or (t_not (t_truth (e_call F_is_listed rfl (hr.mono (by decide)) (takes_of rfl rfl rfl rfl) rfl (aa_cons (e_v (i := 0) rfl (by first | exact .inl rfl | exact .inr (.inl rfl) | exact .inr (.inr rfl)) (by decide) (by decide)) aa_nil rfl) rfl) (fun _ => rfl))) (w_or1 (y_gt (b_len z_len rfl (e_v (i := 0) rfl (by first | exact .inl rfl | exact .inr (.inl rfl) | exact .inr (.inr rfl)) (by decide) (by decide)) rfl) xi)))) (ss_cons (st_raise (ps_raiseLow_BadPart rfl T_BadPart hr.r (takes_of rfl rfl rfl rfl) (as_cons xs as_nil rfl))) ss_nil) ss_nil) (ss_cons (st_for (ps_for (passes_of rfl) rfl (i_enum rfl z_enumerate (e_v (i := 0) rfl (by first | exact .inl rfl | exact .inr (.inl rfl) | exact .inr (.inr rfl)) (by decide) (by decide)) rfl) (pg_tl rfl (pgs_cons (pg_name (i := 1) S.nd rfl (by first | exact .inl rfl | exact .inr rfl) (by first | exact .inl rfl | exact .inr rfl)) (pgs_cons (pg_name (i := 2) S.nd rfl (by first | exact .inl rfl | exact .inr rfl) (by first | exact .inl rfl | exact .inr rfl)) pgs_nil))) (ss_cons (st_if (y_is (e_v (i := 2) rfl (by first | exact .inl rfl | exact .inr (.inl rfl) | exact .inr (.inr rfl)) (by decide) (by decide)) xn) (ss_cons st_cont ss_nil) ss_nil) (ss_cons (st_if (PW.pt (w_or (t_not (t_truth (e_call F_is_errand rfl (hr.mono (by decide)) (takes_of rfl rfl rfl rfl) rfl (aa_cons (e_v (i := 2) rfl (by first | exact .inl rfl | exact .inr (.inl rfl) | exact .inr (.inr rfl)) (by decide) (by decide)) aa_nil rfl) rfl) (fun _ => rfl))) (w_or1 (PW.pt (w_and (y_eq (hu64 hr) (e_ix (e_v (i := 2) rfl (by first | exact .inl rfl | exact .inr (.inl rfl) | exact .inr (.inr rfl)) (by decide) (by decide)) xi (fun _ _ => rfl)) xs) (w_and1 (y_in (hu65 hr) (e_v (i := 2) rfl (by first | exact .inl rfl | exact .inr (.inl rfl) | exact .inr (.inr rfl)) (by decide) (by decide)) (e_sl (e_v (i := 0) rfl (by first | exact .inl rfl | exact .inr (.inl rfl) | exact .inr (.inr rfl)) (by decide) (by decide)) po_none' (po_some' (e_v (i := 1) rfl (by first | exact .inl rfl | exact .inr (.inl rfl) | exact .inr (.inr rfl)) (by decide) (by decide)))) rfl))))))) (ss_cons (st_raise (ps_raiseLow_BadErrand rfl T_BadErrand hr.r (takes_of rfl rfl rfl rfl) (as_cons (e_v (i := 1) rfl (by first | exact .inl rfl | exact .inr (.inl rfl) | exact .inr (.inr rfl)) (by decide) (by decide)) as_nil rfl))) ss_nil) ss_nil) ss_nil)) (fun _ => rfl))) ss_nil))
def b_Person___init__ : List ST := [.expr (.call 0 [.v 1, .v 2, .c (.str "home")]), .if_ (.not_ (.call 1 [.v 3])) [.raise "BadNumber" "number" (.v 3)] [], .expr (.call 2 [.v 4])]
def t_Person___init__ : List (Str × IR) := [("name", .v 1), ("home", .v 2), ("leaves", .v 3), ("errands", .blt .tuple [.v 4])]
def g_Person___init__ : Ctx := ⟨[f_need_name_and_place, f_is_told_minute, f_need_errands], [], [], ["Person"], []⟩
theorem sc_Person___init__ : FnScope ("self" :: ["name", "home", "leaves", "errands"]) ("self" :: ["name", "home", "leaves", "errands"]) (defScope (inTop 25 0)) := ⟨rfl, rfl, rfl, by decide +kernel, rfl, by decide +kernel, by decide +kernel⟩
theorem ok_Person___init__ {f : Addr} {fd : FuncData} {dvs : List V} {kws : List (Str × V)} {F : List D → FR} (Fd : FunD K "__init__" "Person.__init__" (defArgs (inTop 25 0)) (defBody (inTop 25 0)) (defScope (inTop 25 0)) dvs kws f fd) (cl : Cls K (clsAt K "Person")) (na : ∀ f, f ∈ (t_Person___init__.map (·.1)) → NoAttr K (clsAt K "Person") f) (hI : InitF g_Person___init__ 4 b_Person___init__ t_Person___init__ F) {I_BadNumber : Addr} (T_BadNumber : PySem.ErrBadNumber.LowTxt K mg (clsAt K "BadNumber") I_BadNumber) (F_need_name_and_place : FnF P w K mg base 2 "need_name_and_place" f_need_name_and_place) (F_is_told_minute : FnF P w K mg base 3 "is_told_minute" f_is_told_minute) (F_need_errands : FnF P w K mg base 5 "need_errands" f_need_errands) (z_tuple : mg "tuple" = none) :
    FnOk P w K mg base (L2.CX P w) 6 f fd ("self" :: ["name", "home", "leaves", "errands"]) (spMk K "Person" 4 (t_Person___init__.map (·.1)) F) :=
  have S := sc_Person___init__
  fn_init Fd S rfl (by decide) hI cl (by decide +kernel) na (by decide) fun cdv A outer s H E hr =>
    (.step (st_expr (e_call F_need_name_and_place rfl (hr.mono (by decide)) (takes_of rfl rfl rfl rfl) rfl (aa_cons (e_v (i := 1) rfl (by first | exact .inl rfl | exact .inr (.inl rfl) | exact .inr (.inr rfl)) (by decide) (by decide)) (aa_cons (e_v (i := 2) rfl (by first | exact .inl rfl | exact .inr (.inl rfl) | exact .inr (.inr rfl)) (by decide) (by decide)) (aa_cons xs aa_nil rfl) rfl) rfl) rfl) rfl) (.step (st_if (t_not (t_truth (e_call F_is_told_minute rfl (hr.mono (by decide)) (takes_of rfl rfl rfl rfl) rfl (aa_cons (e_v (i := 3) rfl (by first | exact .inl rfl | exact .inr (.inl rfl) | exact .inr (.inr rfl)) (by decide) (by decide)) aa_nil rfl) rfl) (fun _ => rfl))) (ss_cons (st_raise (ps_raiseLow_BadNumber rfl T_BadNumber hr.r (takes_of rfl rfl rfl rfl) (as_cons (e_v (i := 3) rfl (by first | exact .inl rfl | exact .inr (.inl rfl) | exact .inr (.inr rfl)) (by decide) (by decide)) as_nil rfl))) ss_nil) ss_nil) (.step (st_expr (e_call F_need_errands rfl (hr.mono (by decide)) (takes_of rfl rfl rfl rfl) rfl (aa_cons (e_v (i := 4) rfl (by first | exact .inl rfl | exact .inr (.inl rfl) | exact .inr (.inr rfl)) (by decide) (by decide)) aa_nil rfl) rfl) rfl) (.last (tl_cons (ps_fld (pe_var (i := 0) rfl (by first | exact .inl rfl | exact .inr (.inl rfl) | exact .inr (.inr rfl))) (e_v (i := 1) rfl (by first | exact .inl rfl | exact .inr (.inl rfl) | exact .inr (.inr rfl)) (by decide) (by decide)) rfl) (tl_cons (ps_fld (pe_var (i := 0) rfl (by first | exact .inl rfl | exact .inr (.inl rfl) | exact .inr (.inr rfl))) (e_v (i := 2) rfl (by first | exact .inl rfl | exact .inr (.inl rfl) | exact .inr (.inr rfl)) (by decide) (by decide)) rfl) (tl_cons (ps_fld (pe_var (i := 0) rfl (by first | exact .inl rfl | exact .inr (.inl rfl) | exact .inr (.inr rfl))) (e_v (i := 3) rfl (by first | exact .inl rfl | exact .inr (.inl rfl) | exact .inr (.inr rfl)) (by decide) (by decide)) rfl) (tl_cons (ps_fld (pe_var (i := 0) rfl (by first | exact .inl rfl | exact .inr (.inl rfl) | exact .inr (.inr rfl))) (b_tuple z_tuple rfl (e_v (i := 4) rfl (by first | exact .inl rfl | exact .inr (.inl rfl) | exact .inr (.inr rfl)) (by decide) (by decide)) rfl) rfl) tl_nil))))))))
def k_Person : Mkr := ⟨"Person", 4, ["name", "home", "leaves", "errands"], fun ds => match ds with
  | [n, h, l, e] => (match f_need_name_and_place.sem [n, h, .str "home"] with
    | .exc C f d _ => .exc C f d []
    | .ok _ _ => (match f_is_told_minute.sem [l] with
      | .ok (.bl false) _ => .exc "BadNumber" "number" l []
      | .ok (.bl true) _ => (match f_need_errands.sem [e] with
        | .exc C f d _ => .exc C f d []
        | .ok _ _ => (match seqD e with
          | some xs => .ok .non [n, h, l, .tup xs]
          | none => .bad)
        | .bad => .bad)
      | _ => .bad)
    | .bad => .bad)
  | _ => .bad⟩
def k_Person_kw : Mkr := ⟨"Person", 4, ["name", "home", "leaves", "errands"], fun ds => k_Person.sem (permP ds)⟩
def b_Person___eq__ : List ST := [.ret (.and_ (.isin (.v 1) [(.cls "Person")]) (.and_ (.cmp .eq (.fld (.v 0) "name") (.fld (.v 1) "name")) (.and_ (.cmp .eq (.fld (.v 0) "home") (.fld (.v 1) "home")) (.and_ (.cmp .eq (.fld (.v 0) "leaves") (.fld (.v 1) "leaves")) (.cmp .eq (.fld (.v 0) "errands") (.fld (.v 1) "errands"))))))]
def g_Person___eq__ : Ctx := ⟨[], [], [], ["Person"], []⟩
def m_Person___eq__ : Mt := ⟨"Person", "__eq__", 2, semB g_Person___eq__ 2 none b_Person___eq__⟩
theorem sc_Person___eq__ : FnScope ["self", "other"] ["self", "other"] (defScope (inTop 25 1)) := ⟨rfl, rfl, rfl, by decide +kernel, rfl, by decide +kernel, by decide +kernel⟩
theorem ok_Person___eq__ {f : Addr} {fd : FuncData} (F : Fun K "__eq__" "Person.__eq__" (inTop 25 1) f fd) (z_isinstance : mg "isinstance" = none) (hC : ∀ C, C ∈ (["Person"] : List Str) → IsC K C) {a_Person : Addr} (g_Person : mg "Person" = some (.ref a_Person)) (K_Person : IsK K ["Person"] (.cls "Person") (.ref a_Person)) (hF : ClsF K ["Person"] ["name", "home", "leaves", "errands"]) :
    FnOk P w K mg base (L2.CX P w) 1 f fd ["self", "other"] (spF K 2 none (semB g_Person___eq__ 2 none b_Person___eq__)) :=
  have S := sc_Person___eq__
  fn_body F S (by decide) fun cdv A outer s H E hr =>
    (ss_cons (st_ret (e_and (e_isin1 hC K_Person (.own _) (e_v (i := 1) rfl (by first | exact .inl rfl | exact .inr (.inl rfl) | exact .inr (.inr rfl)) (by decide) (by decide)) (pe_glob rfl g_Person rfl) rfl z_isinstance rfl rfl) (e_and (x_eq (hu64 hr) (e_fld hF (by decide) (e_v (i := 0) rfl (by first | exact .inl rfl | exact .inr (.inl rfl) | exact .inr (.inr rfl)) (by decide) (by decide)) rfl) (e_fld hF (by decide) (e_v (i := 1) rfl (by first | exact .inl rfl | exact .inr (.inl rfl) | exact .inr (.inr rfl)) (by decide) (by decide)) rfl)) (e_and (x_eq (hu64 hr) (e_fld hF (by decide) (e_v (i := 0) rfl (by first | exact .inl rfl | exact .inr (.inl rfl) | exact .inr (.inr rfl)) (by decide) (by decide)) rfl) (e_fld hF (by decide) (e_v (i := 1) rfl (by first | exact .inl rfl | exact .inr (.inl rfl) | exact .inr (.inr rfl)) (by decide) (by decide)) rfl)) (e_and (x_eq (hu64 hr) (e_fld hF (by decide) (e_v (i := 0) rfl (by first | exact .inl rfl | exact .inr (.inl rfl) | exact .inr (.inr rfl)) (by decide) (by decide)) rfl) (e_fld hF (by decide) (e_v (i := 1) rfl (by first | exact .inl rfl | exact .inr (.inl rfl) | exact .inr (.inr rfl)) (by decide) (by decide)) rfl)) (pe_one (x_eq (hu64 hr) (e_fld hF (by decide) (e_v (i := 0) rfl (by first | exact .inl rfl | exact .inr (.inl rfl) | exact .inr (.inr rfl)) (by decide) (by decide)) rfl) (e_fld hF (by decide) (e_v (i := 1) rfl (by first | exact .inl rfl | exact .inr (.inl rfl) | exact .inr (.inr rfl)) (by decide) (by decide)) rfl)))))))) ss_nil)
def b_Person_own_keys : List ST := [.ret (.lc (.tup [1, 2]) (.enum (.fld (.v 0) "errands")) (some (.cmp .isnot (.v 2) (.c .non))) (.tup [.fld (.v 0) "name", .v 1]) [1, 2])]
def g_Person_own_keys : Ctx := ⟨[], [], [], ["Person"], []⟩
def m_Person_own_keys : Mt := ⟨"Person", "own_keys", 1, semB g_Person_own_keys 3 none b_Person_own_keys⟩
theorem sc_Person_own_keys : FnScope ["self", "index", "errand"] ["self"] (defScope (inTop 25 2)) := ⟨rfl, rfl, rfl, by decide +kernel, rfl, by decide +kernel, by decide +kernel⟩
theorem ok_Person_own_keys {f : Addr} {fd : FuncData} (F : Fun K "own_keys" "Person.own_keys" (inTop 25 2) f fd) (z_enumerate : mg "enumerate" = none) (hF : ClsF K ["Person"] ["name", "home", "leaves", "errands"]) :
    FnOk P w K mg base (L2.CX P w) 1 f fd ["self"] (spF K 1 none (semB g_Person_own_keys 3 none b_Person_own_keys)) :=
  have S := sc_Person_own_keys
  fn_body F S (by decide) fun cdv A outer s H E hr =>
    (ss_cons (st_ret (e_lc (own := [("index", 1), ("errand", 2)]) rfl S.nd (i_enum rfl z_enumerate (e_fld hF (by decide) (e_v (i := 0) rfl (by first | exact .inl rfl | exact .inr (.inl rfl) | exact .inr (.inr rfl)) (by decide) (by decide)) rfl) rfl) (blkOk_by (N := ["self", "index", "errand"]) (sc := defScope (inTop 25 2)) (by decide +kernel)) (fun _ _ _ _ _ => (pg_tl rfl (pgs_cons (pg_name (i := 1) S.nd rfl (by first | exact .inl rfl | exact .inr rfl) (by first | exact .inl rfl | exact .inr rfl)) (pgs_cons (pg_name (i := 2) S.nd rfl (by first | exact .inl rfl | exact .inr rfl) (by first | exact .inl rfl | exact .inr rfl)) pgs_nil)))) (fun _ _ _ _ _ => (pts_one (y_isnot (e_v (i := 2) rfl (by first | exact .inl rfl | exact .inr (.inl rfl) | exact .inr (.inr rfl)) (by decide) (by decide)) xn))) (fun _ _ _ _ _ => (e_tup (as_cons (e_fld hF (by decide) (e_v (i := 0) rfl (by first | exact .inl rfl | exact .inr (.inl rfl) | exact .inr (.inr rfl)) (by decide) (by decide)) rfl) (as_cons (e_v (i := 1) rfl (by first | exact .inl rfl | exact .inr (.inl rfl) | exact .inr (.inr rfl)) (by decide) (by decide)) as_nil rfl) rfl))) (fun _ => rfl))) ss_nil)
def b_Person_leaving_at : List ST := [.ret (.make 0 [.fld (.v 0) "name", .fld (.v 0) "home", .v 1, .fld (.v 0) "errands"])]
def g_Person_leaving_at : Ctx := ⟨[], [], [k_Person], ["Person"], []⟩
def m_Person_leaving_at : Mt := ⟨"Person", "leaving_at", 2, semB g_Person_leaving_at 2 none b_Person_leaving_at⟩
theorem sc_Person_leaving_at : FnScope ["self", "minute"] ["self", "minute"] (defScope (inTop 25 3)) := ⟨rfl, rfl, rfl, by decide +kernel, rfl, by decide +kernel, by decide +kernel⟩
theorem ok_Person_leaving_at {f : Addr} {fd : FuncData} (F : Fun K "leaving_at" "Person.leaving_at" (inTop 25 3) f fd) (C_Person : MkF P w K mg base 6 "Person" k_Person) (hF : ClsF K ["Person"] ["name", "home", "leaves", "errands"]) :
    FnOk P w K mg base (L2.CX P w) 8 f fd ["self", "minute"] (spF K 2 none (semB g_Person_leaving_at 2 none b_Person_leaving_at)) :=
  have S := sc_Person_leaving_at
  fn_body F S (by decide) fun cdv A outer s H E hr =>
    (ss_cons (st_ret (e_make C_Person rfl (hr.mono (by decide)) (takes_of rfl rfl rfl rfl) rfl (as_cons (e_fld hF (by decide) (e_v (i := 0) rfl (by first | exact .inl rfl | exact .inr (.inl rfl) | exact .inr (.inr rfl)) (by decide) (by decide)) rfl) (as_cons (e_fld hF (by decide) (e_v (i := 0) rfl (by first | exact .inl rfl | exact .inr (.inl rfl) | exact .inr (.inr rfl)) (by decide) (by decide)) rfl) (as_cons (e_v (i := 1) rfl (by first | exact .inl rfl | exact .inr (.inl rfl) | exact .inr (.inr rfl)) (by decide) (by decide)) (as_cons (e_fld hF (by decide) (e_v (i := 0) rfl (by first | exact .inl rfl | exact .inr (.inl rfl) | exact .inr (.inr rfl)) (by decide) (by decide)) rfl) as_nil rfl) rfl) rfl) rfl) rfl)) ss_nil)
def b_Person_with_errand : List ST := [.if_ (.not_ (.call 0 [.v 1, .c (.int 0), .bin .sub (.blt .len [.fld (.v 0) "errands"]) (.c (.int 1))])) [.raise "BadIndex" "index" (.v 1)] [], .asg (.name 3) (.lstS [true, false, true] [.sq (.sl (.fld (.v 0) "errands") none (some (.v 1))), .v 2, .sq (.sl (.fld (.v 0) "errands") (some (.bin .add (.v 1) (.c (.int 1)))) none)]), .ret (.make 0 [.fld (.v 0) "name", .fld (.v 0) "home", .fld (.v 0) "leaves", .v 3])]
def g_Person_with_errand : Ctx := ⟨[f_is_between], [], [k_Person], ["Person"], []⟩
def m_Person_with_errand : Mt := ⟨"Person", "with_errand", 3, semB g_Person_with_errand 4 none b_Person_with_errand⟩
theorem cl_Person_with_errand_0 {a0 a1 a2 : IR} {env : Env} : ev g_Person_with_errand (.call 0 [a0, a1, a2]) env = (evs g_Person_with_errand [a0, a1, a2] env).bind fun ds e1 => runF e1 (f_is_between.sem ds) := ev_call rfl rfl rfl
theorem sc_Person_with_errand : FnScope ["self", "index", "errand", "errands"] ["self", "index", "errand"] (defScope (inTop 25 4)) := ⟨rfl, rfl, rfl, by decide +kernel, rfl, by decide +kernel, by decide +kernel⟩
theorem ok_Person_with_errand {f : Addr} {fd : FuncData} (F : Fun K "with_errand" "Person.with_errand" (inTop 25 4) f fd) {I_BadIndex : Addr} (T_BadIndex : PySem.ErrBadIndex.LowTxt K mg (clsAt K "BadIndex") I_BadIndex) (F_is_between : FnF P w K mg base 2 "is_between" f_is_between) (C_Person : MkF P w K mg base 6 "Person" k_Person) (z_len : mg "len" = none) (hF : ClsF K ["Person"] ["name", "home", "leaves", "errands"]) :
    FnOk P w K mg base (L2.CX P w) 8 f fd ["self", "index", "errand"] (spF K 3 none (semB g_Person_with_errand 4 none b_Person_with_errand)) :=
  have S := sc_Person_with_errand
  fn_body F S (by decide) fun cdv A outer s H E hr =>
    (ss_cons (st_if (t_not (t_truth (e_call F_is_between rfl (hr.mono (by decide)) (takes_of rfl rfl rfl rfl) rfl (aa_cons (e_v (i := 1) rfl (by first | exact .inl rfl | exact .inr (.inl rfl) | exact .inr (.inr rfl)) (by decide) (by decide)) (aa_cons xi (aa_cons (x_sub (b_len z_len rfl (e_fld hF (by decide) (e_v (i := 0) rfl (by first | exact .inl rfl | exact .inr (.inl rfl) | exact .inr (.inr rfl)) (by decide) (by decide)) rfl) rfl) xi) aa_nil rfl) rfl) rfl) rfl) (fun _ => rfl))) (ss_cons (st_raise (ps_raiseLow_BadIndex rfl T_BadIndex hr.r (takes_of rfl rfl rfl rfl) (as_cons (e_v (i := 1) rfl (by first | exact .inl rfl | exact .inr (.inl rfl) | exact .inr (.inr rfl)) (by decide) (by decide)) as_nil rfl))) ss_nil) ss_nil) (ss_cons (st_asg (ps_set (i := 3) S.nd rfl (by first | exact .inl rfl | exact .inr rfl) (e_lstS (ass_star (e_sl (e_fld hF (by decide) (e_v (i := 0) rfl (by first | exact .inl rfl | exact .inr (.inl rfl) | exact .inr (.inr rfl)) (by decide) (by decide)) rfl) po_none' (po_some' (e_v (i := 1) rfl (by first | exact .inl rfl | exact .inr (.inl rfl) | exact .inr (.inr rfl)) (by decide) (by decide)))) (ass_cons (e_v (i := 2) rfl (by first | exact .inl rfl | exact .inr (.inl rfl) | exact .inr (.inr rfl)) (by decide) (by decide)) (ass_star (e_sl (e_fld hF (by decide) (e_v (i := 0) rfl (by first | exact .inl rfl | exact .inr (.inl rfl) | exact .inr (.inr rfl)) (by decide) (by decide)) rfl) (po_some' (x_add (e_v (i := 1) rfl (by first | exact .inl rfl | exact .inr (.inl rfl) | exact .inr (.inr rfl)) (by decide) (by decide)) xi)) po_none') ass_nil) rfl))) rfl (by first | exact .inl rfl | exact .inr rfl))) (ss_cons (st_ret (e_make C_Person rfl (hr.mono (by decide)) (takes_of rfl rfl rfl rfl) rfl (as_cons (e_fld hF (by decide) (e_v (i := 0) rfl (by first | exact .inl rfl | exact .inr (.inl rfl) | exact .inr (.inr rfl)) (by decide) (by decide)) rfl) (as_cons (e_fld hF (by decide) (e_v (i := 0) rfl (by first | exact .inl rfl | exact .inr (.inl rfl) | exact .inr (.inr rfl)) (by decide) (by decide)) rfl) (as_cons (e_fld hF (by decide) (e_v (i := 0) rfl (by first | exact .inl rfl | exact .inr (.inl rfl) | exact .inr (.inr rfl)) (by decide) (by decide)) rfl) (as_cons (e_v (i := 3) rfl (by first | exact .inl rfl | exact .inr (.inl rfl) | exact .inr (.inr rfl)) (by decide) (by decide)) as_nil rfl) rfl) rfl) rfl) rfl)) ss_nil)))
def b__law_pool : List ST := [.asg (.name 2) (.c (.int 0)), .if_ (.cmp .lt (.v 1) (.blt .len [.v 0])) [.asg (.name 2) (.ix (.v 0) (.v 1))] [], .asg (.name 3) (.blt .max2 [.blt .int [.v 2], .blt .int [.bin .sub (.neg (.c (.int 1))) (.v 2)]]), .asg (.name 4) (.bin .mod (.blt .int [.bin .mul (.bin .add (.bin .add (.bin .add (.bin .mod (.blt .int [.v 3]) (.c (.int 2147483629))) (.bin .mul (.bin .mul (.c (.int 7919)) (.v 1)) (.v 1))) (.bin .mul (.c (.int 31)) (.v 1))) (.c (.int 17))) (.c (.int 48271))]) (.c (.int 2147483647))), .retl (.lst [.bin .mul (.v 3) (.blt .int [.cmp .ge (.v 3) (.bin .pow (.c (.int 10)) (.c (.int 18)))]), .v 4])]
def g__law_pool : Ctx := ⟨[], [], [], ["Person"], []⟩
def f__law_pool : Fn := ⟨2, none, semBF g__law_pool 5 b__law_pool⟩
theorem sc__law_pool : FnScope ["_law_script", "_law_k", "_law_cell", "_law_big", "_law_mixed"] ["_law_script", "_law_k"] (defScope (top 27)) := ⟨rfl, rfl, rfl, by decide +kernel, rfl, by decide +kernel, by decide +kernel⟩
theorem ok__law_pool {f : Addr} {fd : FuncData} (F : Fun K "_law_pool" "_law_pool" (top 27) f fd) (z_len : mg "len" = none) (z_max : mg "max" = none) (z_int : mg "int" = none) :
    FnOk P w K mg base (L2.CX P w) 1 f fd ["_law_script", "_law_k"] (spFr K 2 (semBF g__law_pool 5 b__law_pool)) :=
  have S := sc__law_pool
  fn_bodyF F S (by decide) fun cdv A outer s H E hr =>
    (ss_cons (st_asg (ps_set (i := 2) S.nd rfl (by first | exact .inl rfl | exact .inr rfl) xi rfl (by first | exact .inl rfl | exact .inr rfl))) (ss_cons (st_if (y_lt (e_v (i := 1) rfl (by first | exact .inl rfl | exact .inr (.inl rfl) | exact .inr (.inr rfl)) (by decide) (by decide)) (b_len z_len rfl (e_v (i := 0) rfl (by first | exact .inl rfl | exact .inr (.inl rfl) | exact .inr (.inr rfl)) (by decide) (by decide)) rfl)) (ss_cons (st_asg (ps_set (i := 2) S.nd rfl (by first | exact .inl rfl | exact .inr rfl) (e_ix (e_v (i := 0) rfl (by first | exact .inl rfl | exact .inr (.inl rfl) | exact .inr (.inr rfl)) (by decide) (by decide)) (e_v (i := 1) rfl (by first | exact .inl rfl | exact .inr (.inl rfl) | exact .inr (.inr rfl)) (by decide) (by decide)) (fun _ _ => rfl)) rfl (by first | exact .inl rfl | exact .inr rfl))) ss_nil) ss_nil) (ss_cons (st_asg (ps_set (i := 3) S.nd rfl (by first | exact .inl rfl | exact .inr rfl) (b_max rfl z_max rfl (b_int z_int rfl (e_v (i := 2) rfl (by first | exact .inl rfl | exact .inr (.inl rfl) | exact .inr (.inr rfl)) (by decide) (by decide)) rfl) (b_int z_int rfl (x_sub (e_neg xi) (e_v (i := 2) rfl (by first | exact .inl rfl | exact .inr (.inl rfl) | exact .inr (.inr rfl)) (by decide) (by decide))) rfl) rfl rfl) rfl (by first | exact .inl rfl | exact .inr rfl))) (ss_cons (st_asg (ps_set (i := 4) S.nd rfl (by first | exact .inl rfl | exact .inr rfl) (x_mod (b_int z_int rfl (x_mul (x_add (x_add (x_add (x_mod (b_int z_int rfl (e_v (i := 3) rfl (by first | exact .inl rfl | exact .inr (.inl rfl) | exact .inr (.inr rfl)) (by decide) (by decide)) rfl) xi) (x_mul (x_mul xi (e_v (i := 1) rfl (by first | exact .inl rfl | exact .inr (.inl rfl) | exact .inr (.inr rfl)) (by decide) (by decide))) (e_v (i := 1) rfl (by first | exact .inl rfl | exact .inr (.inl rfl) | exact .inr (.inr rfl)) (by decide) (by decide)))) (x_mul xi (e_v (i := 1) rfl (by first | exact .inl rfl | exact .inr (.inl rfl) | exact .inr (.inr rfl)) (by decide) (by decide)))) xi) xi) rfl) xi) rfl (by first | exact .inl rfl | exact .inr rfl))) (ss_cons (st_retl (l_lst (as_cons (x_mul (e_v (i := 3) rfl (by first | exact .inl rfl | exact .inr (.inl rfl) | exact .inr (.inr rfl)) (by decide) (by decide)) (b_int z_int rfl (x_ge (e_v (i := 3) rfl (by first | exact .inl rfl | exact .inr (.inl rfl) | exact .inr (.inr rfl)) (by decide) (by decide)) (x_pow xi xi)) rfl)) (as_cons (e_v (i := 4) rfl (by first | exact .inl rfl | exact .inr (.inl rfl) | exact .inr (.inr rfl)) (by decide) (by decide)) as_nil rfl) rfl))) ss_nil)))))
def b__law_take : List ST := [.if_ (.cmp .gt (.ix (.v 0) (.c (.int 0))) (.c (.int 0))) [.asg (.name 2) (.bin .mod (.blt .int [.ix (.v 0) (.c (.int 0))]) (.v 1)), .six 0 (.c (.int 0)) (.bin .fdiv (.ix (.v 0) (.c (.int 0))) (.v 1)), .ret (.v 2)] [], .six 0 (.c (.int 1)) (.bin .mod (.blt .int [.bin .add (.bin .mul (.ix (.v 0) (.c (.int 1))) (.c (.int 39373))) (.c (.int 7))]) (.c (.int 2147483647))), .ret (.bin .mod (.blt .int [.bin .fdiv (.bin .mod (.blt .int [.bin .mul (.ix (.v 0) (.c (.int 1))) (.ix (.v 0) (.c (.int 1)))]) (.c (.int 2147483629))) (.c (.int 32))]) (.v 1))]
def g__law_take : Ctx := ⟨[], [], [], ["Person"], []⟩
def f__law_take : Fn := ⟨2, some 0, semB g__law_take 3 (some 0) b__law_take⟩
theorem sc__law_take : FnScope ["_law_source", "_law_top", "_law_told"] ["_law_source", "_law_top"] (defScope (top 28)) := ⟨rfl, rfl, rfl, by decide +kernel, rfl, by decide +kernel, by decide +kernel⟩
theorem ok__law_take {f : Addr} {fd : FuncData} (F : Fun K "_law_take" "_law_take" (top 28) f fd) (z_int : mg "int" = none) :
    FnOk P w K mg base (L2.CX P w) 1 f fd ["_law_source", "_law_top"] (spF K 2 (some 0) (semB g__law_take 3 (some 0) b__law_take)) :=
  have S := sc__law_take
  fn_body F S (by decide) fun cdv A outer s H E hr =>
    (ss_cons (st_if (y_gt (e_ix (e_v (i := 0) rfl (by first | exact .inl rfl | exact .inr (.inl rfl) | exact .inr (.inr rfl)) (by decide) (by decide)) xi (fun _ _ => rfl)) xi) (ss_cons (st_asg (ps_set (i := 2) S.nd rfl (by first | exact .inl rfl | exact .inr rfl) (x_mod (b_int z_int rfl (e_ix (e_v (i := 0) rfl (by first | exact .inl rfl | exact .inr (.inl rfl) | exact .inr (.inr rfl)) (by decide) (by decide)) xi (fun _ _ => rfl)) rfl) (e_v (i := 1) rfl (by first | exact .inl rfl | exact .inr (.inl rfl) | exact .inr (.inr rfl)) (by decide) (by decide))) rfl (by first | exact .inl rfl | exact .inr rfl))) (ss_cons (st_six (ps_asg (x_fdiv (e_ix (e_v (i := 0) rfl (by first | exact .inl rfl | exact .inr (.inl rfl) | exact .inr (.inr rfl)) (by decide) (by decide)) xi (fun _ _ => rfl)) (e_v (i := 1) rfl (by first | exact .inl rfl | exact .inr (.inl rfl) | exact .inr (.inr rfl)) (by decide) (by decide))) (pg_sub (pe_var (i := 0) rfl (by first | exact .inl rfl | exact .inr (.inl rfl) | exact .inr (.inr rfl))) xi set_list (fun _ => rfl)) rfl rfl rfl)) (ss_cons (st_ret (e_v (i := 2) rfl (by first | exact .inl rfl | exact .inr (.inl rfl) | exact .inr (.inr rfl)) (by decide) (by decide))) ss_nil))) ss_nil) (ss_cons (st_six (ps_asg (x_mod (b_int z_int rfl (x_add (x_mul (e_ix (e_v (i := 0) rfl (by first | exact .inl rfl | exact .inr (.inl rfl) | exact .inr (.inr rfl)) (by decide) (by decide)) xi (fun _ _ => rfl)) xi) xi) rfl) xi) (pg_sub (pe_var (i := 0) rfl (by first | exact .inl rfl | exact .inr (.inl rfl) | exact .inr (.inr rfl))) xi set_list (fun _ => rfl)) rfl rfl rfl)) (ss_cons (st_ret (x_mod (b_int z_int rfl (x_fdiv (x_mod (b_int z_int rfl (x_mul (e_ix (e_v (i := 0) rfl (by first | exact .inl rfl | exact .inr (.inl rfl) | exact .inr (.inr rfl)) (by decide) (by decide)) xi (fun _ _ => rfl)) (e_ix (e_v (i := 0) rfl (by first | exact .inl rfl | exact .inr (.inl rfl) | exact .inr (.inr rfl)) (by decide) (by decide)) xi (fun _ _ => rfl))) rfl) xi) xi) rfl) (e_v (i := 1) rfl (by first | exact .inl rfl | exact .inr (.inl rfl) | exact .inr (.inr rfl)) (by decide) (by decide)))) ss_nil)))
def b__law_one : List ST := [.ret (.ix (.v 1) (.call 0 [.v 0, .blt .len [.v 1]]))]
def g__law_one : Ctx := ⟨[f__law_take], [], [], ["Person"], []⟩
def f__law_one : Fn := ⟨2, some 0, semB g__law_one 2 (some 0) b__law_one⟩
theorem sc__law_one : FnScope ["_law_source", "_law_things"] ["_law_source", "_law_things"] (defScope (top 29)) := ⟨rfl, rfl, rfl, by decide +kernel, rfl, by decide +kernel, by decide +kernel⟩
theorem ok__law_one {f : Addr} {fd : FuncData} (F : Fun K "_law_one" "_law_one" (top 29) f fd) (F__law_take : FnF P w K mg base 1 "_law_take" f__law_take) (z_len : mg "len" = none) :
    FnOk P w K mg base (L2.CX P w) 2 f fd ["_law_source", "_law_things"] (spF K 2 (some 0) (semB g__law_one 2 (some 0) b__law_one)) :=
  have S := sc__law_one
  fn_body F S (by decide) fun cdv A outer s H E hr =>
    (ss_cons (st_ret (e_ix (e_v (i := 1) rfl (by first | exact .inl rfl | exact .inr (.inl rfl) | exact .inr (.inr rfl)) (by decide) (by decide)) (e_call F__law_take rfl (hr.mono (by decide)) (takes_of rfl rfl rfl rfl) rfl (aa_cons (e_v (i := 0) rfl (by first | exact .inl rfl | exact .inr (.inl rfl) | exact .inr (.inr rfl)) (by decide) (by decide)) (aa_cons (b_len z_len rfl (e_v (i := 1) rfl (by first | exact .inl rfl | exact .inr (.inl rfl) | exact .inr (.inr rfl)) (by decide) (by decide)) rfl) aa_nil rfl) rfl) rfl) (fun _ _ => rfl))) ss_nil)
def b__law_rounds : List ST := [.ret (.lrng (.blt .max2 [.c (.int 1), .blt .min2 [.blt .len [.v 0], .c (.int 3)]]))]
def g__law_rounds : Ctx := ⟨[], [], [], ["Person"], []⟩
def f__law_rounds : Fn := ⟨1, none, semB g__law_rounds 1 none b__law_rounds⟩
theorem sc__law_rounds : FnScope ["_law_script"] ["_law_script"] (defScope (top 30)) := ⟨rfl, rfl, rfl, by decide +kernel, rfl, by decide +kernel, by decide +kernel⟩
theorem ok__law_rounds {f : Addr} {fd : FuncData} (F : Fun K "_law_rounds" "_law_rounds" (top 30) f fd) (z_list : mg "list" = none) (z_range : mg "range" = none) (z_max : mg "max" = none) (z_min : mg "min" = none) (z_len : mg "len" = none) :
    FnOk P w K mg base (L2.CX P w) 1 f fd ["_law_script"] (spF K 1 none (semB g__law_rounds 1 none b__law_rounds)) :=
  have S := sc__law_rounds
  fn_body F S (by decide) fun cdv A outer s H E hr =>
    (ss_cons (st_ret (e_lrng rfl rfl z_list rfl z_range (b_max rfl z_max rfl xi (b_min rfl z_min rfl (b_len z_len rfl (e_v (i := 0) rfl (by first | exact .inl rfl | exact .inr (.inl rfl) | exact .inr (.inr rfl)) (by decide) (by decide)) rfl) xi rfl rfl) rfl rfl) rfl)) ss_nil)
def cs__law_heard : List HC := [⟨"BadPart", "part", "part", false⟩, ⟨"BadNumber", "number", "number", true⟩, ⟨"BadName", "name", "name", true⟩, ⟨"BadKey", "key", "key", true⟩, ⟨"BadErrand", "index", "errand", false⟩, ⟨"BadIndex", "index", "index", true⟩, ⟨"BadOrder", "name", "order", false⟩, ⟨"NoWay", "pair", "way", false⟩]
theorem sc__law_heard : FnScope ["_law_call", "e"] ["_law_call"] (defScope (top 31)) := ⟨rfl, rfl, rfl, by decide +kernel, rfl, by decide +kernel, by decide +kernel⟩
theorem hG__law_heard {X : Cx} {q : Str} {g : Addr} {cdv : Value} {I_BadPart I_BadNumber I_BadName I_BadKey I_BadErrand I_BadIndex I_BadOrder I_NoWay : Addr} (hgd : X.A.guards = some []) (hu : X.A.units + 100 < cLine) (z_repr : X.mg "repr" = none) (T_BadPart : PySem.ErrBadPart.LowTxt X.K X.mg (clsAt X.K "BadPart") I_BadPart) (T_BadNumber : PySem.ErrBadNumber.LowTxt X.K X.mg (clsAt X.K "BadNumber") I_BadNumber) (T_BadName : PySem.ErrBadName.LowTxt X.K X.mg (clsAt X.K "BadName") I_BadName) (T_BadKey : PySem.ErrBadKey.LowTxt X.K X.mg (clsAt X.K "BadKey") I_BadKey) (T_BadErrand : PySem.ErrBadErrand.LowTxt X.K X.mg (clsAt X.K "BadErrand") I_BadErrand) (T_BadIndex : PySem.ErrBadIndex.LowTxt X.K X.mg (clsAt X.K "BadIndex") I_BadIndex) (T_BadOrder : PySem.ErrBadOrder.LowTxt X.K X.mg (clsAt X.K "BadOrder") I_BadOrder) (T_NoWay : PySem.ErrNoWay.LowTxt X.K X.mg (clsAt X.K "NoWay") I_NoWay) :
    LamX.GivesTo X ["_law_call", "e"] "_law_heard" (defScope (top 31)) g cdv (defBody (top 31)) "_law_call" q (THeardN X.K "none" cs__law_heard) :=
  heard_givesN (i := 1) (by decide) rfl rfl (fun _ => rfl) fun s H => (.more ⟨rfl, by decide, .inl T_BadPart.gC⟩ (fun ea eo cls d pn hz hf => cl_dat (Y := (cxOf C8.CX0 X.prog X.w X.K X.mg X.base ["_law_call", "e"] "_law_heard" (defScope (top 31)) g cdv X.A X.stack s H C8.E0).nox) (c := ⟨"BadPart", "part", "part", false⟩) (n := "e") (i := 1) rfl (pe_byLow_BadPart (X := (cxOf C8.CX0 X.prog X.w X.K X.mg X.base ["_law_call", "e"] "_law_heard" (defScope (top 31)) g cdv X.A X.stack s H C8.E0).nox) T_BadPart hz hf (pe_var (i := 1) rfl (by first | exact .inl rfl | exact .inr (.inl rfl) | exact .inr (.inr rfl)))) (by show 1 < 2; decide)) (.more ⟨rfl, by decide, .inl T_BadNumber.gC⟩ (fun ea eo cls d pn hz hf => cl_rep (k := 0) (Y := (cxOf C8.CX0 X.prog X.w X.K X.mg X.base ["_law_call", "e"] "_law_heard" (defScope (top 31)) g cdv X.A X.stack s H C8.E0).nox) (c := ⟨"BadNumber", "number", "number", true⟩) (n := "e") (i := 1) rfl (pe_byLow_BadNumber (X := (cxOf C8.CX0 X.prog X.w X.K X.mg X.base ["_law_call", "e"] "_law_heard" (defScope (top 31)) g cdv X.A X.stack s H C8.E0).nox) T_BadNumber hz hf (pe_var (i := 1) rfl (by first | exact .inl rfl | exact .inr (.inl rfl) | exact .inr (.inr rfl)))) (by show 1 < 2; decide) hgd (by show X.A.units + 3 + 64 < _; omega) rfl z_repr) (.more ⟨rfl, by decide, .inl T_BadName.gC⟩ (fun ea eo cls d pn hz hf => cl_rep (k := 0) (Y := (cxOf C8.CX0 X.prog X.w X.K X.mg X.base ["_law_call", "e"] "_law_heard" (defScope (top 31)) g cdv X.A X.stack s H C8.E0).nox) (c := ⟨"BadName", "name", "name", true⟩) (n := "e") (i := 1) rfl (pe_byLow_BadName (X := (cxOf C8.CX0 X.prog X.w X.K X.mg X.base ["_law_call", "e"] "_law_heard" (defScope (top 31)) g cdv X.A X.stack s H C8.E0).nox) T_BadName hz hf (pe_var (i := 1) rfl (by first | exact .inl rfl | exact .inr (.inl rfl) | exact .inr (.inr rfl)))) (by show 1 < 2; decide) hgd (by show X.A.units + 3 + 64 < _; omega) rfl z_repr) (.more ⟨rfl, by decide, .inl T_BadKey.gC⟩ (fun ea eo cls d pn hz hf => cl_rep (k := 0) (Y := (cxOf C8.CX0 X.prog X.w X.K X.mg X.base ["_law_call", "e"] "_law_heard" (defScope (top 31)) g cdv X.A X.stack s H C8.E0).nox) (c := ⟨"BadKey", "key", "key", true⟩) (n := "e") (i := 1) rfl (pe_byLow_BadKey (X := (cxOf C8.CX0 X.prog X.w X.K X.mg X.base ["_law_call", "e"] "_law_heard" (defScope (top 31)) g cdv X.A X.stack s H C8.E0).nox) T_BadKey hz hf (pe_var (i := 1) rfl (by first | exact .inl rfl | exact .inr (.inl rfl) | exact .inr (.inr rfl)))) (by show 1 < 2; decide) hgd (by show X.A.units + 3 + 64 < _; omega) rfl z_repr) (.more ⟨rfl, by decide, .inl T_BadErrand.gC⟩ (fun ea eo cls d pn hz hf => cl_dat (Y := (cxOf C8.CX0 X.prog X.w X.K X.mg X.base ["_law_call", "e"] "_law_heard" (defScope (top 31)) g cdv X.A X.stack s H C8.E0).nox) (c := ⟨"BadErrand", "index", "errand", false⟩) (n := "e") (i := 1) rfl (pe_byLow_BadErrand (X := (cxOf C8.CX0 X.prog X.w X.K X.mg X.base ["_law_call", "e"] "_law_heard" (defScope (top 31)) g cdv X.A X.stack s H C8.E0).nox) T_BadErrand hz hf (pe_var (i := 1) rfl (by first | exact .inl rfl | exact .inr (.inl rfl) | exact .inr (.inr rfl)))) (by show 1 < 2; decide)) (.more ⟨rfl, by decide, .inl T_BadIndex.gC⟩ (fun ea eo cls d pn hz hf => cl_rep (k := 0) (Y := (cxOf C8.CX0 X.prog X.w X.K X.mg X.base ["_law_call", "e"] "_law_heard" (defScope (top 31)) g cdv X.A X.stack s H C8.E0).nox) (c := ⟨"BadIndex", "index", "index", true⟩) (n := "e") (i := 1) rfl (pe_byLow_BadIndex (X := (cxOf C8.CX0 X.prog X.w X.K X.mg X.base ["_law_call", "e"] "_law_heard" (defScope (top 31)) g cdv X.A X.stack s H C8.E0).nox) T_BadIndex hz hf (pe_var (i := 1) rfl (by first | exact .inl rfl | exact .inr (.inl rfl) | exact .inr (.inr rfl)))) (by show 1 < 2; decide) hgd (by show X.A.units + 3 + 64 < _; omega) rfl z_repr) (.more ⟨rfl, by decide, .inl T_BadOrder.gC⟩ (fun ea eo cls d pn hz hf => cl_dat (Y := (cxOf C8.CX0 X.prog X.w X.K X.mg X.base ["_law_call", "e"] "_law_heard" (defScope (top 31)) g cdv X.A X.stack s H C8.E0).nox) (c := ⟨"BadOrder", "name", "order", false⟩) (n := "e") (i := 1) rfl (pe_byLow_BadOrder (X := (cxOf C8.CX0 X.prog X.w X.K X.mg X.base ["_law_call", "e"] "_law_heard" (defScope (top 31)) g cdv X.A X.stack s H C8.E0).nox) T_BadOrder hz hf (pe_var (i := 1) rfl (by first | exact .inl rfl | exact .inr (.inl rfl) | exact .inr (.inr rfl)))) (by show 1 < 2; decide)) (.more ⟨rfl, by decide, .inl T_NoWay.gC⟩ (fun ea eo cls d pn hz hf => cl_dat (Y := (cxOf C8.CX0 X.prog X.w X.K X.mg X.base ["_law_call", "e"] "_law_heard" (defScope (top 31)) g cdv X.A X.stack s H C8.E0).nox) (c := ⟨"NoWay", "pair", "way", false⟩) (n := "e") (i := 1) rfl (pe_byLow_NoWay (X := (cxOf C8.CX0 X.prog X.w X.K X.mg X.base ["_law_call", "e"] "_law_heard" (defScope (top 31)) g cdv X.A X.stack s H C8.E0).nox) T_NoWay hz hf (pe_var (i := 1) rfl (by first | exact .inl rfl | exact .inr (.inl rfl) | exact .inr (.inr rfl)))) (by show 1 < 2; decide)) .none_))))))))
def b__law_drawn_errands : List ST := [.parl 2 (.lst []) 3, .for_ (.name 1) (.rng1 (.call 0 [.v 0, .c (.int 6)])) [.asg (.name 4) (.call 1 [.v 0, .lst [.c (.str "stay"), .c (.str "counter"), .c (.str "room"), .c (.str "meet"), .c (.str "none")]]), .if_ (.and_ (.cmp .eq (.v 4) (.c (.str "meet"))) (.cmp .notin (.v 4) (.v 3))) [.expr (.app 3 (.v 4)), .expr (.app 2 (.tup [.c (.str "meet"), .call 1 [.v 0, .lst [.c (.str "talk"), .c (.str "vote")]]]))] [.if_ (.cmp .in_ (.v 4) (.lst [.c (.str "none"), .c (.str "meet")])) [.expr (.app 2 (.c .non))] [.expr (.app 2 (.tup [.v 4, .call 1 [.v 0, .lst [.c (.str "a"), .c (.str "bank"), .c (.str "abcdefgh")]], .call 1 [.v 0, .lst [.c (.int 0), .c (.int 1), .c (.int 60), .c (.int 600)]]]))]]], .ret (.v 2)]
def g__law_drawn_errands : Ctx := ⟨[f__law_take, f__law_one], [], [], ["Person"], []⟩
def f__law_drawn_errands : Fn := ⟨1, some 0, semB g__law_drawn_errands 5 (some 0) b__law_drawn_errands⟩
theorem sc__law_drawn_errands : FnScope ["_law_source", "_law_turn", "_law_found", "_law_met", "_law_kind"] ["_law_source"] (defScope (top 32)) := ⟨rfl, rfl, rfl, by decide +kernel, rfl, by decide +kernel, by decide +kernel⟩
theorem ok__law_drawn_errands {f : Addr} {fd : FuncData} (F : Fun K "_law_drawn_errands" "_law_drawn_errands" (top 32) f fd) (F__law_take : FnF P w K mg base 1 "_law_take" f__law_take) (F__law_one : FnF P w K mg base 2 "_law_one" f__law_one) (z_range : mg "range" = none) :
    FnOk P w K mg base (L2.CX P w) 3 f fd ["_law_source"] (spF K 1 (some 0) (semB g__law_drawn_errands 5 (some 0) b__law_drawn_errands)) :=
  have S := sc__law_drawn_errands
  fn_body F S (by decide) fun cdv A outer s H E hr =>
    (ss_cons (st_parl (ps_par (i := 2) (j := 3) rfl S.nd rfl rfl (by decide) rfl rfl (pa_cons (l_lst as_nil) (pa_cons pe_nil0 pa_nil (star_cons rfl)) (star_cons rfl)) rfl rfl)) (ss_cons (st_for (ps_for (passes_of rfl) rfl (i_rng1 rfl z_range (e_call F__law_take rfl (hr.mono (by decide)) (takes_of rfl rfl rfl rfl) rfl (aa_cons (e_v (i := 0) rfl (by first | exact .inl rfl | exact .inr (.inl rfl) | exact .inr (.inr rfl)) (by decide) (by decide)) (aa_cons xi aa_nil rfl) rfl) rfl) rfl) (pg_name (i := 1) S.nd rfl (by first | exact .inl rfl | exact .inr rfl) (by first | exact .inl rfl | exact .inr rfl)) (ss_cons (st_asg (ps_set (i := 4) S.nd rfl (by first | exact .inl rfl | exact .inr rfl) (e_call F__law_one rfl (hr.mono (by decide)) (takes_of rfl rfl rfl rfl) rfl (aa_cons (e_v (i := 0) rfl (by first | exact .inl rfl | exact .inr (.inl rfl) | exact .inr (.inr rfl)) (by decide) (by decide)) (aa_cons (e_lst (as_cons xs (as_cons xs (as_cons xs (as_cons xs (as_cons xs as_nil rfl) rfl) rfl) rfl) rfl)) aa_nil rfl) rfl) rfl) rfl (by first | exact .inl rfl | exact .inr rfl))) (ss_cons (st_if (PW.pt (w_and (y_eq (hu64 hr) (e_v (i := 4) rfl (by first | exact .inl rfl | exact .inr (.inl rfl) | exact .inr (.inr rfl)) (by decide) (by decide)) xs) (w_and1 (y_notin (hu65 hr) (e_v (i := 4) rfl (by first | exact .inl rfl | exact .inr (.inl rfl) | exact .inr (.inr rfl)) (by decide) (by decide)) (e_v (i := 3) rfl (by first | exact .inl rfl | exact .inr (.inl rfl) | exact .inr (.inr rfl)) (by decide) (by decide)) rfl)))) (ss_cons (st_expr (e_app (i := 3) rfl (by first | exact .inl rfl | exact .inr (.inl rfl) | exact .inr (.inr rfl)) (by decide) (by decide) (e_v (i := 4) rfl (by first | exact .inl rfl | exact .inr (.inl rfl) | exact .inr (.inr rfl)) (by decide) (by decide)) rfl (by rfl) rfl) rfl) (ss_cons (st_expr (e_app (i := 2) rfl (by first | exact .inl rfl | exact .inr (.inl rfl) | exact .inr (.inr rfl)) (by decide) (by decide) (e_tup (as_cons xs (as_cons (e_call F__law_one rfl (hr.mono (by decide)) (takes_of rfl rfl rfl rfl) rfl (aa_cons (e_v (i := 0) rfl (by first | exact .inl rfl | exact .inr (.inl rfl) | exact .inr (.inr rfl)) (by decide) (by decide)) (aa_cons (e_lst (as_cons xs (as_cons xs as_nil rfl) rfl)) aa_nil rfl) rfl) rfl) as_nil rfl) rfl)) rfl (by rfl) rfl) rfl) ss_nil)) (ss_cons (st_if (y_in (hu65 hr) (e_v (i := 4) rfl (by first | exact .inl rfl | exact .inr (.inl rfl) | exact .inr (.inr rfl)) (by decide) (by decide)) (e_lst (as_cons xs (as_cons xs as_nil rfl) rfl)) rfl) (ss_cons (st_expr (e_app (i := 2) rfl (by first | exact .inl rfl | exact .inr (.inl rfl) | exact .inr (.inr rfl)) (by decide) (by decide) xn rfl (by rfl) rfl) rfl) ss_nil) (ss_cons (st_expr (e_app (i := 2) rfl (by first | exact .inl rfl | exact .inr (.inl rfl) | exact .inr (.inr rfl)) (by decide) (by decide) (e_tup (as_cons (e_v (i := 4) rfl (by first | exact .inl rfl | exact .inr (.inl rfl) | exact .inr (.inr rfl)) (by decide) (by decide)) (as_cons (e_call F__law_one rfl (hr.mono (by decide)) (takes_of rfl rfl rfl rfl) rfl (aa_cons (e_v (i := 0) rfl (by first | exact .inl rfl | exact .inr (.inl rfl) | exact .inr (.inr rfl)) (by decide) (by decide)) (aa_cons (e_lst (as_cons xs (as_cons xs (as_cons xs as_nil rfl) rfl) rfl)) aa_nil rfl) rfl) rfl) (as_cons (e_call F__law_one rfl (hr.mono (by decide)) (takes_of rfl rfl rfl rfl) rfl (aa_cons (e_v (i := 0) rfl (by first | exact .inl rfl | exact .inr (.inl rfl) | exact .inr (.inr rfl)) (by decide) (by decide)) (aa_cons (e_lst (as_cons xi (as_cons xi (as_cons xi (as_cons xi as_nil rfl) rfl) rfl) rfl)) aa_nil rfl) rfl) rfl) as_nil rfl) rfl) rfl)) rfl (by rfl) rfl) rfl) ss_nil)) ss_nil)) ss_nil)) (fun _ => rfl))) (ss_cons (st_ret (e_v (i := 2) rfl (by first | exact .inl rfl | exact .inr (.inl rfl) | exact .inr (.inr rfl)) (by decide) (by decide))) ss_nil)))
def b__law_wrong_errands : List ST := [.asg (.name 0) (.lst [.c (.int 5), .c (.str "stay"), .tup [.c (.str "stay"), .c (.str "a")], .tup [.c (.str "stay"), .c (.str "a"), .c (.int 601)], .tup [.c (.str "stay"), .c (.str "a"), .neg (.c (.int 1))], .tup [.c (.str "stay"), .c (.str "a"), .c (.bl true)], .tup [.c (.str "meet"), .c (.str "a"), .c (.int 5)]]), .asg (.name 0) (.bin .add (.v 0) (.lst [.tup [.c (.str "meet")], .tup [.c (.str "counter"), .c (.str "A"), .c (.int 5)], .tup [.c (.str "room"), .c (.str "abcdefghi"), .c (.int 5)], .lst [.c (.str "stay"), .c (.str "a"), .c (.int 5)], .tup [.c (.str "walk"), .c (.str "a"), .c (.int 5)], .tup []])), .ret (.bin .add (.v 0) (.lst [.tup [.c (.str "stay"), .c (.str ""), .c (.int 5)], .tup [.c (.int 5), .c (.str "a"), .c (.int 5)], .tup [.c (.str "stay"), .c (.int 5), .c (.int 5)], .tup [.c (.str "counter"), .c (.str "a"), .c .non], .tup [.c (.str "meet"), .c .non]]))]
def g__law_wrong_errands : Ctx := ⟨[], [], [], ["Person"], []⟩
def f__law_wrong_errands : Fn := ⟨0, none, semB g__law_wrong_errands 1 none b__law_wrong_errands⟩
theorem sc__law_wrong_errands : FnScope ["_law_some"] [] (defScope (top 33)) := ⟨rfl, rfl, rfl, by decide +kernel, rfl, by decide +kernel, by decide +kernel⟩
theorem ok__law_wrong_errands {f : Addr} {fd : FuncData} (F : Fun K "_law_wrong_errands" "_law_wrong_errands" (top 33) f fd)  :
    FnOk P w K mg base (L2.CX P w) 1 f fd [] (spF K 0 none (semB g__law_wrong_errands 1 none b__law_wrong_errands)) :=
  have S := sc__law_wrong_errands
  fn_body F S (by decide) fun cdv A outer s H E hr =>
    (ss_cons (st_asg (ps_set (i := 0) S.nd rfl (by first | exact .inl rfl | exact .inr rfl) (e_lst (as_cons xi (as_cons xs (as_cons (e_tup (as_cons xs (as_cons xs as_nil rfl) rfl)) (as_cons (e_tup (as_cons xs (as_cons xs (as_cons xi as_nil rfl) rfl) rfl)) (as_cons (e_tup (as_cons xs (as_cons xs (as_cons (e_neg xi) as_nil rfl) rfl) rfl)) (as_cons (e_tup (as_cons xs (as_cons xs (as_cons xb as_nil rfl) rfl) rfl)) (as_cons (e_tup (as_cons xs (as_cons xs (as_cons xi as_nil rfl) rfl) rfl)) as_nil rfl) rfl) rfl) rfl) rfl) rfl) rfl)) rfl (by first | exact .inl rfl | exact .inr rfl))) (ss_cons (st_asg (ps_set (i := 0) S.nd rfl (by first | exact .inl rfl | exact .inr rfl) (x_add (e_v (i := 0) rfl (by first | exact .inl rfl | exact .inr (.inl rfl) | exact .inr (.inr rfl)) (by decide) (by decide)) (e_lst (as_cons (e_tup (as_cons xs as_nil rfl)) (as_cons (e_tup (as_cons xs (as_cons xs (as_cons xi as_nil rfl) rfl) rfl)) (as_cons (e_tup (as_cons xs (as_cons xs (as_cons xi as_nil rfl) rfl) rfl)) (as_cons (e_lst (as_cons xs (as_cons xs (as_cons xi as_nil rfl) rfl) rfl)) (as_cons (e_tup (as_cons xs (as_cons xs (as_cons xi as_nil rfl) rfl) rfl)) (as_cons (e_tup as_nil) as_nil rfl) rfl) rfl) rfl) rfl) rfl))) rfl (by first | exact .inl rfl | exact .inr rfl))) (ss_cons (st_ret (x_add (e_v (i := 0) rfl (by first | exact .inl rfl | exact .inr (.inl rfl) | exact .inr (.inr rfl)) (by decide) (by decide)) (e_lst (as_cons (e_tup (as_cons xs (as_cons xs (as_cons xi as_nil rfl) rfl) rfl)) (as_cons (e_tup (as_cons xi (as_cons xs (as_cons xi as_nil rfl) rfl) rfl)) (as_cons (e_tup (as_cons xs (as_cons xi (as_cons xi as_nil rfl) rfl) rfl)) (as_cons (e_tup (as_cons xs (as_cons xs (as_cons xn as_nil rfl) rfl) rfl)) (as_cons (e_tup (as_cons xs (as_cons xn as_nil rfl) rfl)) as_nil rfl) rfl) rfl) rfl) rfl)))) ss_nil)))
def b__law_refused : List ST := [.asg (.name 2) (.call 0 [.v 0, .lst [.c (.str ""), .c (.str "A"), .c (.str "abcdefghi"), .c (.str "a1"), .c (.int 5), .c .non, .tup [.c (.str "a")]]]), .asg (.name 3) (.call 0 [.v 0, .lst [.neg (.c (.int 1)), .c (.int 10000), .c (.bl true), .c .non, .c (.str "5")]]), .if_ (.cmp .ne (.heardN "none" cs__law_heard (.make 0 [.v 2, .v 2, .v 3, .c (.int 5)])) (.lst [.c (.str "name"), .blt .repr [.v 2]])) [.ret (.c (.bl false))] [], .if_ (.cmp .ne (.heardN "none" cs__law_heard (.make 0 [.c (.str "a"), .v 2, .v 3, .c (.int 5)])) (.lst [.c (.str "part"), .c (.str "home")])) [.ret (.c (.bl false))] [], .if_ (.cmp .ne (.heardN "none" cs__law_heard (.make 0 [.c (.str "a"), .c (.str "b"), .v 3, .c (.int 5)])) (.lst [.c (.str "number"), .blt .repr [.v 3]])) [.ret (.c (.bl false))] [], .for_ (.name 4) (.seq (.lst [.c (.int 5), .c .non, .c (.str "stay"), .dnew, .bin .mul (.lst [.c .non]) (.c (.int 6))])) [.if_ (.cmp .ne (.heardN "none" cs__law_heard (.make 0 [.c (.str "a"), .c (.str "b"), .c (.int 7), .v 4])) (.lst [.c (.str "part"), .c (.str "errands")])) [.ret (.c (.bl false))] []], .for_ (.name 4) (.seq (.call 1 [])) [.if_ (.cmp .isnot (.call 2 [.v 4]) (.c (.bl false))) [.ret (.c (.bl false))] [], .if_ (.and_ (.cmp .lt (.blt .len [.v 1]) (.c (.int 5))) (.cmp .ne (.heardN "none" cs__law_heard (.make 0 [.c (.str "a"), .c (.str "b"), .c (.int 7), .bin .add (.v 1) (.lst [.v 4])])) (.lst [.c (.str "errand"), .blt .len [.v 1]]))) [.ret (.c (.bl false))] []], .asg (.name 5) (.lst [.c .non, .tup [.c (.str "meet"), .c (.str "talk")], .tup [.c (.str "stay"), .c (.str "a"), .c (.int 5)], .tup [.c (.str "meet"), .c (.str "talk")]]), .if_ (.or_ (.cmp .ne (.heardN "none" cs__law_heard (.make 0 [.c (.str "a"), .c (.str "b"), .c (.int 7), .v 5])) (.lst [.c (.str "errand"), .c (.int 3)])) (.cmp .isnot (.call 2 [.c .non]) (.c (.bl false)))) [.ret (.c (.bl false))] [], .ret (.cmp .eq (.heardN "none" cs__law_heard (.make 0 [.c (.str "a"), .c (.str "b"), .c (.int 7), .lst [.tup [.c (.str "meet"), .c (.str "talk")], .c .non, .tup [.c (.str "meet"), .c (.str "vote")]]])) (.lst [.c (.str "none")]))]
def g__law_refused : Ctx := ⟨[f__law_one, f__law_wrong_errands, f_is_errand], [], [k_Person], ["Person"], []⟩
def f__law_refused : Fn := ⟨2, some 0, semB g__law_refused 6 (some 0) b__law_refused⟩
theorem cl__law_refused_1 {env : Env} : ev g__law_refused (.call 1 []) env = (evs g__law_refused [] env).bind fun ds e1 => runF e1 (f__law_wrong_errands.sem ds) := ev_call rfl rfl rfl
theorem cl__law_refused_2 {a0 : IR} {env : Env} : ev g__law_refused (.call 2 [a0]) env = (evs g__law_refused [a0] env).bind fun ds e1 => runF e1 (f_is_errand.sem ds) := ev_call rfl rfl rfl
theorem sc__law_refused : FnScope ["_law_source", "_law_rows", "_law_odd", "_law_wrong", "_law_value", "_law_twice"] ["_law_source", "_law_rows"] (defScope (top 34)) := ⟨rfl, rfl, rfl, by decide +kernel, rfl, by decide +kernel, by decide +kernel⟩
theorem ok__law_refused {f : Addr} {fd : FuncData} (F : Fun K "_law_refused" "_law_refused" (top 34) f fd) (hgd : GdW.gd) {I_BadPart : Addr} (T_BadPart : PySem.ErrBadPart.LowTxt K mg (clsAt K "BadPart") I_BadPart) {I_BadNumber : Addr} (T_BadNumber : PySem.ErrBadNumber.LowTxt K mg (clsAt K "BadNumber") I_BadNumber) {I_BadName : Addr} (T_BadName : PySem.ErrBadName.LowTxt K mg (clsAt K "BadName") I_BadName) {I_BadKey : Addr} (T_BadKey : PySem.ErrBadKey.LowTxt K mg (clsAt K "BadKey") I_BadKey) {I_BadErrand : Addr} (T_BadErrand : PySem.ErrBadErrand.LowTxt K mg (clsAt K "BadErrand") I_BadErrand) {I_BadIndex : Addr} (T_BadIndex : PySem.ErrBadIndex.LowTxt K mg (clsAt K "BadIndex") I_BadIndex) {I_BadOrder : Addr} (T_BadOrder : PySem.ErrBadOrder.LowTxt K mg (clsAt K "BadOrder") I_BadOrder) {I_NoWay : Addr} (T_NoWay : PySem.ErrNoWay.LowTxt K mg (clsAt K "NoWay") I_NoWay) {h__law_heard : Addr} {v__law_heard : Value} (EF__law_heard : ClsFacts K cs__law_heard) (H__law_heard : HrdF K mg "_law_heard" (top 31) "_law_call" h__law_heard v__law_heard) {c_L P_L : Addr} (LT : LamT base mg fd (PySem.Str.ofString "_law_refused" ++ PySem.Str.ofString ".<locals>.") c_L P_L) (F__law_one : FnF P w K mg base 2 "_law_one" f__law_one) (F__law_wrong_errands : FnF P w K mg base 1 "_law_wrong_errands" f__law_wrong_errands) (F_is_errand : FnF P w K mg base 4 "is_errand" f_is_errand) (LC_Person : @MkF _ ⟨False⟩ P w K mg base 6 "Person" k_Person) (z_repr : mg "repr" = none) (z_len : mg "len" = none) :
    FnOk P w K mg base (L2.CX P w) 10 f fd ["_law_source", "_law_rows"] (spF K 2 (some 0) (semB g__law_refused 6 (some 0) b__law_refused)) :=
  have S := sc__law_refused
  fn_bodyC F LT.code S (by decide) fun A outer s H E hr =>
    (ss_cons (st_asg (ps_set (i := 2) S.nd rfl (by first | exact .inl rfl | exact .inr rfl) (e_call F__law_one rfl (hr.mono (by decide)) (takes_of rfl rfl rfl rfl) rfl (aa_cons (e_v (i := 0) rfl (by first | exact .inl rfl | exact .inr (.inl rfl) | exact .inr (.inr rfl)) (by decide) (by decide)) (aa_cons (e_lst (as_cons xs (as_cons xs (as_cons xs (as_cons xs (as_cons xi (as_cons xn (as_cons (e_tup (as_cons xs as_nil rfl)) as_nil rfl) rfl) rfl) rfl) rfl) rfl) rfl)) aa_nil rfl) rfl) rfl) rfl (by first | exact .inl rfl | exact .inr rfl))) (ss_cons (st_asg (ps_set (i := 3) S.nd rfl (by first | exact .inl rfl | exact .inr rfl) (e_call F__law_one rfl (hr.mono (by decide)) (takes_of rfl rfl rfl rfl) rfl (aa_cons (e_v (i := 0) rfl (by first | exact .inl rfl | exact .inr (.inl rfl) | exact .inr (.inr rfl)) (by decide) (by decide)) (aa_cons (e_lst (as_cons (e_neg xi) (as_cons xi (as_cons xb (as_cons xn (as_cons xs as_nil rfl) rfl) rfl) rfl) rfl)) aa_nil rfl) rfl) rfl) rfl (by first | exact .inl rfl | exact .inr rfl))) (ss_cons (st_if (y_ne (hu64 hr) (e_hrdN (k := 7) EF__law_heard H__law_heard sc__law_heard rfl (by first | exact .inl rfl | exact .inr (.inl rfl) | exact .inr (.inr rfl)) (hG__law_heard (hr.g hgd) hr.r.u100 z_repr T_BadPart T_BadNumber T_BadName T_BadKey T_BadErrand T_BadIndex T_BadOrder T_NoWay) LT (by rfl) (by rfl) (hr.r.mono (by decide)) (by rfl) (LamX.lamS_by (by first | rfl | kernel_rfl)) rfl (fun _ _ _ _ _ => rfl) (fun A2 out2 s2 H2 E2 f2 c2 hr2 => (e_makeP LC_Person rfl (hr2.mono (by decide)) lam_takes rfl (as_cons (e_v (i := 2) rfl (by first | exact .inl rfl | exact .inr (.inl rfl) | exact .inr (.inr rfl)) (by decide) (by decide)) (as_cons (e_v (i := 2) rfl (by first | exact .inl rfl | exact .inr (.inl rfl) | exact .inr (.inr rfl)) (by decide) (by decide)) (as_cons (e_v (i := 3) rfl (by first | exact .inl rfl | exact .inr (.inl rfl) | exact .inr (.inr rfl)) (by decide) (by decide)) (as_cons xi as_nil rfl) rfl) rfl) rfl) rfl)) (by decide) (by decide) (by decide)) (e_lst (as_cons xs (as_cons (b_repr (hr.g hgd) hr.r z_repr rfl (e_v (i := 2) rfl (by first | exact .inl rfl | exact .inr (.inl rfl) | exact .inr (.inr rfl)) (by decide) (by decide)) rfl) as_nil rfl) rfl))) (ss_cons (st_ret xb) ss_nil) ss_nil) (ss_cons (st_if (y_ne (hu64 hr) (e_hrdN (k := 7) EF__law_heard H__law_heard sc__law_heard rfl (by first | exact .inl rfl | exact .inr (.inl rfl) | exact .inr (.inr rfl)) (hG__law_heard (hr.g hgd) hr.r.u100 z_repr T_BadPart T_BadNumber T_BadName T_BadKey T_BadErrand T_BadIndex T_BadOrder T_NoWay) LT (by rfl) (by rfl) (hr.r.mono (by decide)) (by rfl) (LamX.lamS_by (by first | rfl | kernel_rfl)) rfl (fun _ _ _ _ _ => rfl) (fun A2 out2 s2 H2 E2 f2 c2 hr2 => (e_makeP LC_Person rfl (hr2.mono (by decide)) lam_takes rfl (as_cons xs (as_cons (e_v (i := 2) rfl (by first | exact .inl rfl | exact .inr (.inl rfl) | exact .inr (.inr rfl)) (by decide) (by decide)) (as_cons (e_v (i := 3) rfl (by first | exact .inl rfl | exact .inr (.inl rfl) | exact .inr (.inr rfl)) (by decide) (by decide)) (as_cons xi as_nil rfl) rfl) rfl) rfl) rfl)) (by decide) (by decide) (by decide)) (e_lst (as_cons xs (as_cons xs as_nil rfl) rfl))) (ss_cons (st_ret xb) ss_nil) ss_nil) (ss_cons (st_if (y_ne (hu64 hr) (e_hrdN (k := 7) EF__law_heard H__law_heard sc__law_heard rfl (by first | exact .inl rfl | exact .inr (.inl rfl) | exact .inr (.inr rfl)) (hG__law_heard (hr.g hgd) hr.r.u100 z_repr T_BadPart T_BadNumber T_BadName T_BadKey T_BadErrand T_BadIndex T_BadOrder T_NoWay) LT (by rfl) (by rfl) (hr.r.mono (by decide)) (by rfl) (LamX.lamS_by (by first | rfl | kernel_rfl)) rfl (fun _ _ _ _ _ => rfl) (fun A2 out2 s2 H2 E2 f2 c2 hr2 => (e_makeP LC_Person rfl (hr2.mono (by decide)) lam_takes rfl (as_cons xs (as_cons xs (as_cons (e_v (i := 3) rfl (by first | exact .inl rfl | exact .inr (.inl rfl) | exact .inr (.inr rfl)) (by decide) (by decide)) (as_cons xi as_nil rfl) rfl) rfl) rfl) rfl)) (by decide) (by decide) (by decide)) (e_lst (as_cons xs (as_cons (b_repr (hr.g hgd) hr.r z_repr rfl (e_v (i := 3) rfl (by first | exact .inl rfl | exact .inr (.inl rfl) | exact .inr (.inr rfl)) (by decide) (by decide)) rfl) as_nil rfl) rfl))) (ss_cons (st_ret xb) ss_nil) ss_nil) (ss_cons (st_for (ps_for (passes_of rfl) rfl (i_seq (e_lst (as_cons xi (as_cons xn (as_cons xs (as_cons e_dnew (as_cons (x_mul (e_lst (as_cons xn as_nil rfl)) xi) as_nil rfl) rfl) rfl) rfl) rfl))) (pg_name (i := 4) S.nd rfl (by first | exact .inl rfl | exact .inr rfl) (by first | exact .inl rfl | exact .inr rfl)) (ss_cons (st_if (y_ne (hu64 hr) (e_hrdN (k := 7) EF__law_heard H__law_heard sc__law_heard rfl (by first | exact .inl rfl | exact .inr (.inl rfl) | exact .inr (.inr rfl)) (hG__law_heard (hr.g hgd) hr.r.u100 z_repr T_BadPart T_BadNumber T_BadName T_BadKey T_BadErrand T_BadIndex T_BadOrder T_NoWay) LT (by rfl) (by rfl) (hr.r.mono (by decide)) (by rfl) (LamX.lamS_by (by first | rfl | kernel_rfl)) rfl (fun _ _ _ _ _ => rfl) (fun A2 out2 s2 H2 E2 f2 c2 hr2 => (e_makeP LC_Person rfl (hr2.mono (by decide)) lam_takes rfl (as_cons xs (as_cons xs (as_cons xi (as_cons (e_v (i := 4) rfl (by first | exact .inl rfl | exact .inr (.inl rfl) | exact .inr (.inr rfl)) (by decide) (by decide)) as_nil rfl) rfl) rfl) rfl) rfl)) (by decide) (by decide) (by decide)) (e_lst (as_cons xs (as_cons xs as_nil rfl) rfl))) (ss_cons (st_ret xb) ss_nil) ss_nil) ss_nil) (fun _ => rfl))) (ss_cons (st_for (ps_for (passes_of rfl) rfl (i_seq (e_call0 F__law_wrong_errands rfl (hr.mono (by decide)) (takes_of rfl rfl rfl rfl) rfl)) (pg_name (i := 4) S.nd rfl (by first | exact .inl rfl | exact .inr rfl) (by first | exact .inl rfl | exact .inr rfl)) (ss_cons (st_if (y_isnot (e_call F_is_errand rfl (hr.mono (by decide)) (takes_of rfl rfl rfl rfl) rfl (aa_cons (e_v (i := 4) rfl (by first | exact .inl rfl | exact .inr (.inl rfl) | exact .inr (.inr rfl)) (by decide) (by decide)) aa_nil rfl) rfl) xb) (ss_cons (st_ret xb) ss_nil) ss_nil) (ss_cons (st_if (PW.pt (w_and (y_lt (b_len z_len rfl (e_v (i := 1) rfl (by first | exact .inl rfl | exact .inr (.inl rfl) | exact .inr (.inr rfl)) (by decide) (by decide)) rfl) xi) (w_and1 (y_ne (hu64 hr) (e_hrdN (k := 7) EF__law_heard H__law_heard sc__law_heard rfl (by first | exact .inl rfl | exact .inr (.inl rfl) | exact .inr (.inr rfl)) (hG__law_heard (hr.g hgd) hr.r.u100 z_repr T_BadPart T_BadNumber T_BadName T_BadKey T_BadErrand T_BadIndex T_BadOrder T_NoWay) LT (by rfl) (by rfl) (hr.r.mono (by decide)) (by rfl) (LamX.lamS_by (by first | rfl | kernel_rfl)) rfl (fun _ _ _ _ _ => rfl) (fun A2 out2 s2 H2 E2 f2 c2 hr2 => (e_makeP LC_Person rfl (hr2.mono (by decide)) lam_takes rfl (as_cons xs (as_cons xs (as_cons xi (as_cons (x_add (e_v (i := 1) rfl (by first | exact .inl rfl | exact .inr (.inl rfl) | exact .inr (.inr rfl)) (by decide) (by decide)) (e_lst (as_cons (e_v (i := 4) rfl (by first | exact .inl rfl | exact .inr (.inl rfl) | exact .inr (.inr rfl)) (by decide) (by decide)) as_nil rfl))) as_nil rfl) rfl) rfl) rfl) rfl)) (by decide) (by decide) (by decide)) (e_lst (as_cons xs (as_cons (b_len z_len rfl (e_v (i := 1) rfl (by first | exact .inl rfl | exact .inr (.inl rfl) | exact .inr (.inr rfl)) (by decide) (by decide)) rfl) as_nil rfl) rfl)))))) (ss_cons (st_ret xb) ss_nil) ss_nil) ss_nil)) (fun _ => rfl))) (ss_cons (st_asg (ps_set (i := 5) S.nd rfl (by first | exact .inl rfl | exact .inr rfl) (e_lst (as_cons xn (as_cons (e_tup (as_cons xs (as_cons xs as_nil rfl) rfl)) (as_cons (e_tup (as_cons xs (as_cons xs (as_cons xi as_nil rfl) rfl) rfl)) (as_cons (e_tup (as_cons xs (as_cons xs as_nil rfl) rfl)) as_nil rfl) rfl) rfl) rfl)) rfl (by first | exact .inl rfl | exact .inr rfl))) (ss_cons (st_if (PW.pt (w_or (y_ne (hu64 hr) (e_hrdN (k := 7) EF__law_heard H__law_heard sc__law_heard rfl (by first | exact .inl rfl | exact .inr (.inl rfl) | exact .inr (.inr rfl)) (hG__law_heard (hr.g hgd) hr.r.u100 z_repr T_BadPart T_BadNumber T_BadName T_BadKey T_BadErrand T_BadIndex T_BadOrder T_NoWay) LT (by rfl) (by rfl) (hr.r.mono (by decide)) (by rfl) (LamX.lamS_by (by first | rfl | kernel_rfl)) rfl (fun _ _ _ _ _ => rfl) (fun A2 out2 s2 H2 E2 f2 c2 hr2 => (e_makeP LC_Person rfl (hr2.mono (by decide)) lam_takes rfl (as_cons xs (as_cons xs (as_cons xi (as_cons (e_v (i := 5) rfl (by first | exact .inl rfl | exact .inr (.inl rfl) | exact .inr (.inr rfl)) (by decide) (by decide)) as_nil rfl) rfl) rfl) rfl) rfl)) (by decide) (by decide) (by decide)) (e_lst (as_cons xs (as_cons xi as_nil rfl) rfl))) (w_or1 (y_isnot (e_call F_is_errand rfl (hr.mono (by decide)) (takes_of rfl rfl rfl rfl) rfl (aa_cons xn aa_nil rfl) rfl) xb)))) (ss_cons (st_ret xb) ss_nil) ss_nil) (ss_cons (st_ret (x_eq (hu64 hr) (e_hrdN (k := 7) EF__law_heard H__law_heard sc__law_heard rfl (by first | exact .inl rfl | exact .inr (.inl rfl) | exact .inr (.inr rfl)) (hG__law_heard (hr.g hgd) hr.r.u100 z_repr T_BadPart T_BadNumber T_BadName T_BadKey T_BadErrand T_BadIndex T_BadOrder T_NoWay) LT (by rfl) (by rfl) (hr.r.mono (by decide)) (by rfl) (LamX.lamS_by (by first | rfl | kernel_rfl)) rfl (fun _ _ _ _ _ => rfl) (fun A2 out2 s2 H2 E2 f2 c2 hr2 => (e_makeP LC_Person rfl (hr2.mono (by decide)) lam_takes rfl (as_cons xs (as_cons xs (as_cons xi (as_cons (e_lst (as_cons (e_tup (as_cons xs (as_cons xs as_nil rfl) rfl)) (as_cons xn (as_cons (e_tup (as_cons xs (as_cons xs as_nil rfl) rfl)) as_nil rfl) rfl) rfl)) as_nil rfl) rfl) rfl) rfl) rfl)) (by decide) (by decide) (by decide)) (e_lst (as_cons xs as_nil rfl)))) ss_nil))))))))))
def b__law_changed_right : List ST := [.asg (.name 3) (.call 0 [.v 0, .lst [.c (.int 0), .c (.int 480), .c (.int 9999)]]), .asg (.name 4) (.meth 0 (.v 1) [.v 3]), .if_ (.or_ (.oeq true 1 (.v 4) (.make 0 [.c (.str "ann"), .c (.str "inn"), .v 3, .v 2])) (.oeq true 1 (.v 1) (.make 0 [.c (.str "ann"), .c (.str "inn"), .c (.int 17), .v 2]))) [.ret (.c (.bl false))] [], .asg (.name 5) (.call 0 [.v 0, .lst [.neg (.c (.int 1)), .c (.int 10000), .c .non, .c (.bl true)]]), .if_ (.cmp .ne (.heardN "none" cs__law_heard (.meth 0 (.v 1) [.v 5])) (.lst [.c (.str "number"), .blt .repr [.v 5]])) [.ret (.c (.bl false))] [], .for_ (.name 6) (.seq (.lst [.neg (.c (.int 1)), .blt .len [.v 2], .c .non, .c (.bl true), .c (.str "0")])) [.if_ (.cmp .ne (.heardN "none" cs__law_heard (.meth 2 (.v 1) [.v 6, .c (.int 5)])) (.lst [.c (.str "index"), .blt .repr [.v 6]])) [.ret (.c (.bl false))] []], .for_ (.name 7) (.rng1 (.blt .len [.v 2])) [.for_ (.name 8) (.seq (.lst [.c .non, .tup [.c (.str "stay"), .c (.str "den"), .c (.int 9)]])) [.asg (.name 9) (.bin .add (.bin .add (.sl (.v 2) none (some (.v 7))) (.lst [.v 8])) (.sl (.v 2) (some (.bin .add (.v 7) (.c (.int 1)))) none)), .if_ (.oeq true 1 (.meth 2 (.v 1) [.v 7, .v 8]) (.make 0 [.c (.str "ann"), .c (.str "inn"), .c (.int 17), .v 9])) [.ret (.c (.bl false))] [], .if_ (.and_ (.cmp .isnot (.v 8) (.c .non)) (.oeq false 1 (.v 1) (.make 0 [.c (.str "ann"), .c (.str "inn"), .c (.int 17), .v 9]))) [.ret (.c (.bl false))] []], .if_ (.cmp .ne (.heardN "none" cs__law_heard (.meth 2 (.v 1) [.v 7, .c (.int 5)])) (.lst [.c (.str "errand"), .v 7])) [.ret (.c (.bl false))] []], .ret (.c (.bl true))]
def g__law_changed_right : Ctx := ⟨[f__law_one], [m_Person_leaving_at, m_Person___eq__, m_Person_with_errand], [k_Person], ["Person"], []⟩
def f__law_changed_right : Fn := ⟨3, some 0, semB g__law_changed_right 10 (some 0) b__law_changed_right⟩
theorem sc__law_changed_right : FnScope ["_law_source", "_law_person", "_law_rows", "_law_minute", "_law_later", "_law_wrong", "_law_odd", "_law_at", "_law_value", "_law_due"] ["_law_source", "_law_person", "_law_rows"] (defScope (top 35)) := ⟨rfl, rfl, rfl, by decide +kernel, rfl, by decide +kernel, by decide +kernel⟩
theorem ok__law_changed_right {f : Addr} {fd : FuncData} (F : Fun K "_law_changed_right" "_law_changed_right" (top 35) f fd) (hgd : GdW.gd) {I_BadPart : Addr} (T_BadPart : PySem.ErrBadPart.LowTxt K mg (clsAt K "BadPart") I_BadPart) {I_BadNumber : Addr} (T_BadNumber : PySem.ErrBadNumber.LowTxt K mg (clsAt K "BadNumber") I_BadNumber) {I_BadName : Addr} (T_BadName : PySem.ErrBadName.LowTxt K mg (clsAt K "BadName") I_BadName) {I_BadKey : Addr} (T_BadKey : PySem.ErrBadKey.LowTxt K mg (clsAt K "BadKey") I_BadKey) {I_BadErrand : Addr} (T_BadErrand : PySem.ErrBadErrand.LowTxt K mg (clsAt K "BadErrand") I_BadErrand) {I_BadIndex : Addr} (T_BadIndex : PySem.ErrBadIndex.LowTxt K mg (clsAt K "BadIndex") I_BadIndex) {I_BadOrder : Addr} (T_BadOrder : PySem.ErrBadOrder.LowTxt K mg (clsAt K "BadOrder") I_BadOrder) {I_NoWay : Addr} (T_NoWay : PySem.ErrNoWay.LowTxt K mg (clsAt K "NoWay") I_NoWay) {h__law_heard : Addr} {v__law_heard : Value} (EF__law_heard : ClsFacts K cs__law_heard) (H__law_heard : HrdF K mg "_law_heard" (top 31) "_law_call" h__law_heard v__law_heard) {c_L P_L : Addr} (LT : LamT base mg fd (PySem.Str.ofString "_law_changed_right" ++ PySem.Str.ofString ".<locals>.") c_L P_L) (F__law_one : FnF P w K mg base 2 "_law_one" f__law_one) (M_leaving_at : MtF P w K mg base 8 m_Person_leaving_at) (LM_leaving_at : @MtF _ ⟨False⟩ P w K mg base 8 m_Person_leaving_at) (M___eq__ : MtF P w K mg base 1 m_Person___eq__) (M_with_errand : MtF P w K mg base 8 m_Person_with_errand) (LM_with_errand : @MtF _ ⟨False⟩ P w K mg base 8 m_Person_with_errand) (C_Person : MkF P w K mg base 6 "Person" k_Person) (nf_Person : NFo K "Person") (z_repr : mg "repr" = none) (z_len : mg "len" = none) (z_range : mg "range" = none) (hC : ∀ C, C ∈ (["Person"] : List Str) → IsC K C) :
    FnOk P w K mg base (L2.CX P w) 11 f fd ["_law_source", "_law_person", "_law_rows"] (spF K 3 (some 0) (semB g__law_changed_right 10 (some 0) b__law_changed_right)) :=
  have S := sc__law_changed_right
  fn_bodyC F LT.code S (by decide) fun A outer s H E hr =>
    (ss_cons (st_asg (ps_set (i := 3) S.nd rfl (by first | exact .inl rfl | exact .inr rfl) (e_call F__law_one rfl (hr.mono (by decide)) (takes_of rfl rfl rfl rfl) rfl (aa_cons (e_v (i := 0) rfl (by first | exact .inl rfl | exact .inr (.inl rfl) | exact .inr (.inr rfl)) (by decide) (by decide)) (aa_cons (e_lst (as_cons xi (as_cons xi (as_cons xi as_nil rfl) rfl) rfl)) aa_nil rfl) rfl) rfl) rfl (by first | exact .inl rfl | exact .inr rfl))) (ss_cons (st_asg (ps_set (i := 4) S.nd rfl (by first | exact .inl rfl | exact .inr rfl) (e_meth (m := m_Person_leaving_at) M_leaving_at rfl (hr.mono (by decide)) (takes_of rfl rfl rfl rfl) (e_v (i := 1) rfl (by first | exact .inl rfl | exact .inr (.inl rfl) | exact .inr (.inr rfl)) (by decide) (by decide)) (as_cons (e_v (i := 3) rfl (by first | exact .inl rfl | exact .inr (.inl rfl) | exact .inr (.inr rfl)) (by decide) (by decide)) as_nil rfl) rfl rfl) rfl (by first | exact .inl rfl | exact .inr rfl))) (ss_cons (st_if (PW.pt (w_or (t_onq (m := m_Person___eq__) M___eq__ rfl (hC _ (.head _)) nf_Person rfl (hr.mono (by decide)) (takes_of rfl rfl rfl rfl) (e_v (i := 4) rfl (by first | exact .inl rfl | exact .inr (.inl rfl) | exact .inr (.inr rfl)) (by decide) (by decide)) (e_make C_Person rfl (hr.mono (by decide)) (takes_of rfl rfl rfl rfl) rfl (as_cons xs (as_cons xs (as_cons (e_v (i := 3) rfl (by first | exact .inl rfl | exact .inr (.inl rfl) | exact .inr (.inr rfl)) (by decide) (by decide)) (as_cons (e_v (i := 2) rfl (by first | exact .inl rfl | exact .inr (.inl rfl) | exact .inr (.inr rfl)) (by decide) (by decide)) as_nil rfl) rfl) rfl) rfl) rfl) rfl) (w_or1 (t_onq (m := m_Person___eq__) M___eq__ rfl (hC _ (.head _)) nf_Person rfl (hr.mono (by decide)) (takes_of rfl rfl rfl rfl) (e_v (i := 1) rfl (by first | exact .inl rfl | exact .inr (.inl rfl) | exact .inr (.inr rfl)) (by decide) (by decide)) (e_make C_Person rfl (hr.mono (by decide)) (takes_of rfl rfl rfl rfl) rfl (as_cons xs (as_cons xs (as_cons xi (as_cons (e_v (i := 2) rfl (by first | exact .inl rfl | exact .inr (.inl rfl) | exact .inr (.inr rfl)) (by decide) (by decide)) as_nil rfl) rfl) rfl) rfl) rfl) rfl)))) (ss_cons (st_ret xb) ss_nil) ss_nil) (ss_cons (st_asg (ps_set (i := 5) S.nd rfl (by first | exact .inl rfl | exact .inr rfl) (e_call F__law_one rfl (hr.mono (by decide)) (takes_of rfl rfl rfl rfl) rfl (aa_cons (e_v (i := 0) rfl (by first | exact .inl rfl | exact .inr (.inl rfl) | exact .inr (.inr rfl)) (by decide) (by decide)) (aa_cons (e_lst (as_cons (e_neg xi) (as_cons xi (as_cons xn (as_cons xb as_nil rfl) rfl) rfl) rfl)) aa_nil rfl) rfl) rfl) rfl (by first | exact .inl rfl | exact .inr rfl))) (ss_cons (st_if (y_ne (hu64 hr) (e_hrdN (k := 8) EF__law_heard H__law_heard sc__law_heard rfl (by first | exact .inl rfl | exact .inr (.inl rfl) | exact .inr (.inr rfl)) (hG__law_heard (hr.g hgd) hr.r.u100 z_repr T_BadPart T_BadNumber T_BadName T_BadKey T_BadErrand T_BadIndex T_BadOrder T_NoWay) LT (by rfl) (by rfl) (hr.r.mono (by decide)) (by rfl) (LamX.lamS_by (by first | rfl | kernel_rfl)) rfl (fun _ _ _ _ _ => rfl) (fun A2 out2 s2 H2 E2 f2 c2 hr2 => (e_methP (m := m_Person_leaving_at) LM_leaving_at rfl (hr2.mono (by decide)) lam_takes (e_v (i := 1) rfl (by first | exact .inl rfl | exact .inr (.inl rfl) | exact .inr (.inr rfl)) (by decide) (by decide)) (as_cons (e_v (i := 5) rfl (by first | exact .inl rfl | exact .inr (.inl rfl) | exact .inr (.inr rfl)) (by decide) (by decide)) as_nil rfl) rfl rfl)) (by decide) (by decide) (by decide)) (e_lst (as_cons xs (as_cons (b_repr (hr.g hgd) hr.r z_repr rfl (e_v (i := 5) rfl (by first | exact .inl rfl | exact .inr (.inl rfl) | exact .inr (.inr rfl)) (by decide) (by decide)) rfl) as_nil rfl) rfl))) (ss_cons (st_ret xb) ss_nil) ss_nil) (ss_cons (st_for (ps_for (passes_of rfl) rfl (i_seq (e_lst (as_cons (e_neg xi) (as_cons (b_len z_len rfl (e_v (i := 2) rfl (by first | exact .inl rfl | exact .inr (.inl rfl) | exact .inr (.inr rfl)) (by decide) (by decide)) rfl) (as_cons xn (as_cons xb (as_cons xs as_nil rfl) rfl) rfl) rfl) rfl))) (pg_name (i := 6) S.nd rfl (by first | exact .inl rfl | exact .inr rfl) (by first | exact .inl rfl | exact .inr rfl)) (ss_cons (st_if (y_ne (hu64 hr) (e_hrdN (k := 8) EF__law_heard H__law_heard sc__law_heard rfl (by first | exact .inl rfl | exact .inr (.inl rfl) | exact .inr (.inr rfl)) (hG__law_heard (hr.g hgd) hr.r.u100 z_repr T_BadPart T_BadNumber T_BadName T_BadKey T_BadErrand T_BadIndex T_BadOrder T_NoWay) LT (by rfl) (by rfl) (hr.r.mono (by decide)) (by rfl) (LamX.lamS_by (by first | rfl | kernel_rfl)) rfl (fun _ _ _ _ _ => rfl) (fun A2 out2 s2 H2 E2 f2 c2 hr2 => (e_methP (m := m_Person_with_errand) LM_with_errand rfl (hr2.mono (by decide)) lam_takes (e_v (i := 1) rfl (by first | exact .inl rfl | exact .inr (.inl rfl) | exact .inr (.inr rfl)) (by decide) (by decide)) (as_cons (e_v (i := 6) rfl (by first | exact .inl rfl | exact .inr (.inl rfl) | exact .inr (.inr rfl)) (by decide) (by decide)) (as_cons xi as_nil rfl) rfl) rfl rfl)) (by decide) (by decide) (by decide)) (e_lst (as_cons xs (as_cons (b_repr (hr.g hgd) hr.r z_repr rfl (e_v (i := 6) rfl (by first | exact .inl rfl | exact .inr (.inl rfl) | exact .inr (.inr rfl)) (by decide) (by decide)) rfl) as_nil rfl) rfl))) (ss_cons (st_ret xb) ss_nil) ss_nil) ss_nil) (fun _ => rfl))) (ss_cons (st_for (ps_for (passes_of rfl) rfl (i_rng1 rfl z_range (b_len z_len rfl (e_v (i := 2) rfl (by first | exact .inl rfl | exact .inr (.inl rfl) | exact .inr (.inr rfl)) (by decide) (by decide)) rfl) rfl) (pg_name (i := 7) S.nd rfl (by first | exact .inl rfl | exact .inr rfl) (by first | exact .inl rfl | exact .inr rfl)) (ss_cons (st_for (ps_for (passes_of rfl) rfl (i_seq (e_lst (as_cons xn (as_cons (e_tup (as_cons xs (as_cons xs (as_cons xi as_nil rfl) rfl) rfl)) as_nil rfl) rfl))) (pg_name (i := 8) S.nd rfl (by first | exact .inl rfl | exact .inr rfl) (by first | exact .inl rfl | exact .inr rfl)) (ss_cons (st_asg (ps_set (i := 9) S.nd rfl (by first | exact .inl rfl | exact .inr rfl) (x_add (x_add (e_sl (e_v (i := 2) rfl (by first | exact .inl rfl | exact .inr (.inl rfl) | exact .inr (.inr rfl)) (by decide) (by decide)) po_none' (po_some' (e_v (i := 7) rfl (by first | exact .inl rfl | exact .inr (.inl rfl) | exact .inr (.inr rfl)) (by decide) (by decide)))) (e_lst (as_cons (e_v (i := 8) rfl (by first | exact .inl rfl | exact .inr (.inl rfl) | exact .inr (.inr rfl)) (by decide) (by decide)) as_nil rfl))) (e_sl (e_v (i := 2) rfl (by first | exact .inl rfl | exact .inr (.inl rfl) | exact .inr (.inr rfl)) (by decide) (by decide)) (po_some' (x_add (e_v (i := 7) rfl (by first | exact .inl rfl | exact .inr (.inl rfl) | exact .inr (.inr rfl)) (by decide) (by decide)) xi)) po_none')) rfl (by first | exact .inl rfl | exact .inr rfl))) (ss_cons (st_if (t_onq (m := m_Person___eq__) M___eq__ rfl (hC _ (.head _)) nf_Person rfl (hr.mono (by decide)) (takes_of rfl rfl rfl rfl) (e_meth (m := m_Person_with_errand) M_with_errand rfl (hr.mono (by decide)) (takes_of rfl rfl rfl rfl) (e_v (i := 1) rfl (by first | exact .inl rfl | exact .inr (.inl rfl) | exact .inr (.inr rfl)) (by decide) (by decide)) (as_cons (e_v (i := 7) rfl (by first | exact .inl rfl | exact .inr (.inl rfl) | exact .inr (.inr rfl)) (by decide) (by decide)) (as_cons (e_v (i := 8) rfl (by first | exact .inl rfl | exact .inr (.inl rfl) | exact .inr (.inr rfl)) (by decide) (by decide)) as_nil rfl) rfl) rfl rfl) (e_make C_Person rfl (hr.mono (by decide)) (takes_of rfl rfl rfl rfl) rfl (as_cons xs (as_cons xs (as_cons xi (as_cons (e_v (i := 9) rfl (by first | exact .inl rfl | exact .inr (.inl rfl) | exact .inr (.inr rfl)) (by decide) (by decide)) as_nil rfl) rfl) rfl) rfl) rfl) rfl) (ss_cons (st_ret xb) ss_nil) ss_nil) (ss_cons (st_if (PW.pt (w_and (y_isnot (e_v (i := 8) rfl (by first | exact .inl rfl | exact .inr (.inl rfl) | exact .inr (.inr rfl)) (by decide) (by decide)) xn) (w_and1 (t_oeq (m := m_Person___eq__) M___eq__ rfl (hC _ (.head _)) nf_Person rfl (hr.mono (by decide)) (takes_of rfl rfl rfl rfl) (e_v (i := 1) rfl (by first | exact .inl rfl | exact .inr (.inl rfl) | exact .inr (.inr rfl)) (by decide) (by decide)) (e_make C_Person rfl (hr.mono (by decide)) (takes_of rfl rfl rfl rfl) rfl (as_cons xs (as_cons xs (as_cons xi (as_cons (e_v (i := 9) rfl (by first | exact .inl rfl | exact .inr (.inl rfl) | exact .inr (.inr rfl)) (by decide) (by decide)) as_nil rfl) rfl) rfl) rfl) rfl) rfl)))) (ss_cons (st_ret xb) ss_nil) ss_nil) ss_nil))) (fun _ => rfl))) (ss_cons (st_if (y_ne (hu64 hr) (e_hrdN (k := 8) EF__law_heard H__law_heard sc__law_heard rfl (by first | exact .inl rfl | exact .inr (.inl rfl) | exact .inr (.inr rfl)) (hG__law_heard (hr.g hgd) hr.r.u100 z_repr T_BadPart T_BadNumber T_BadName T_BadKey T_BadErrand T_BadIndex T_BadOrder T_NoWay) LT (by rfl) (by rfl) (hr.r.mono (by decide)) (by rfl) (LamX.lamS_by (by first | rfl | kernel_rfl)) rfl (fun _ _ _ _ _ => rfl) (fun A2 out2 s2 H2 E2 f2 c2 hr2 => (e_methP (m := m_Person_with_errand) LM_with_errand rfl (hr2.mono (by decide)) lam_takes (e_v (i := 1) rfl (by first | exact .inl rfl | exact .inr (.inl rfl) | exact .inr (.inr rfl)) (by decide) (by decide)) (as_cons (e_v (i := 7) rfl (by first | exact .inl rfl | exact .inr (.inl rfl) | exact .inr (.inr rfl)) (by decide) (by decide)) (as_cons xi as_nil rfl) rfl) rfl rfl)) (by decide) (by decide) (by decide)) (e_lst (as_cons xs (as_cons (e_v (i := 7) rfl (by first | exact .inl rfl | exact .inr (.inl rfl) | exact .inr (.inr rfl)) (by decide) (by decide)) as_nil rfl) rfl))) (ss_cons (st_ret xb) ss_nil) ss_nil) ss_nil)) (fun _ => rfl))) (ss_cons (st_ret xb) ss_nil))))))))
def b_law : List ST := [.for_ (.name 1) (.seq (.call 0 [.v 0])) [.new 2 (.call 0 [.v 0, .v 1]), .asg (.name 3) (.call 1 [.v 2]), .new 4 (.copy (.v 3)), .asg (.name 5) (.makeL 0 [.c (.str "ann"), .c (.str "inn"), .c (.int 17), .v 4]), .expr (.app 4 (.c .non)), .if_ (.cmp .ne (.lst [.fld (.v 5) "name", .fld (.v 5) "home", .fld (.v 5) "leaves", .fld (.v 5) "errands"]) (.lst [.c (.str "ann"), .c (.str "inn"), .c (.int 17), .blt .tuple [.v 3]])) [.ret (.c (.bl false))] [], .if_ (.cmp .ne (.meth 0 (.v 5) []) (.lc (.name 6) (.rng1 (.blt .len [.v 3])) (some (.cmp .isnot (.ix (.v 3) (.v 6)) (.c .non))) (.tup [.c (.str "ann"), .v 6]) [6])) [.ret (.c (.bl false))] [], .if_ (.cmp .ne (.lc (.name 7) (.seq (.v 3)) (some (.and_ (.cmp .isnot (.v 7) (.c .non)) (.cmp .isnot (.call 2 [.v 7]) (.c (.bl true))))) (.v 7) [7]) (.lst [])) [.ret (.c (.bl false))] [], .if_ (.or_ (.oeq true 1 (.v 5) (.make 1 [.c (.str "ann"), .blt .tuple [.v 3], .c (.str "inn"), .c (.int 17)])) (.oeq false 1 (.v 5) (.v 3))) [.ret (.c (.bl false))] [], .if_ (.or_ (.oeq false 1 (.v 5) (.make 0 [.c (.str "ann"), .c (.str "inn"), .c (.int 18), .v 3])) (.oeq false 1 (.v 5) (.make 0 [.c (.str "ann"), .c (.str "den"), .c (.int 17), .v 3]))) [.ret (.c (.bl false))] [], .if_ (.oeq false 1 (.v 5) (.make 0 [.c (.str "bo"), .c (.str "inn"), .c (.int 17), .v 3])) [.ret (.c (.bl false))] [], .if_ (.and_ (.cmp .lt (.blt .len [.v 3]) (.c (.int 5))) (.oeq false 1 (.v 5) (.make 0 [.c (.str "ann"), .c (.str "inn"), .c (.int 17), .bin .add (.v 3) (.lst [.c .non])]))) [.ret (.c (.bl false))] [], .if_ (.or_ (.not_ (.call 3 [.v 2, .v 3])) (.not_ (.call 4 [.v 2, .v 5, .v 3]))) [.ret (.c (.bl false))] []], .ret (.c (.bl true))]
def g_law : Ctx := ⟨[f__law_rounds, f__law_drawn_errands, f_is_errand, f__law_refused, f__law_changed_right], [m_Person_own_keys, m_Person___eq__], [k_Person, k_Person_kw], ["Person"], [f__law_pool]⟩
theorem cl_law_0 {a0 : IR} {env : Env} : ev g_law (.call 0 [a0]) env = (evs g_law [a0] env).bind fun ds e1 => runF e1 (f__law_rounds.sem ds) := ev_call rfl rfl rfl
theorem cl_law_2 {a0 : IR} {env : Env} : ev g_law (.call 2 [a0]) env = (evs g_law [a0] env).bind fun ds e1 => runF e1 (f_is_errand.sem ds) := ev_call rfl rfl rfl
theorem sc_law : FnScope ["_law_script", "_law_k", "_law_source", "_law_rows", "_law_told", "_law_person", "_law_at", "_law_one_here"] ["_law_script"] (defScope (top 36)) := ⟨rfl, rfl, rfl, by decide +kernel, rfl, by decide +kernel, by decide +kernel⟩
theorem ok_law {f : Addr} {fd : FuncData} (F : Fun K "law" "law" (top 36) f fd) (F__law_rounds : FnF P w K mg base 1 "_law_rounds" f__law_rounds) (F__law_drawn_errands : FnF P w K mg base 3 "_law_drawn_errands" f__law_drawn_errands) (F_is_errand : FnF P w K mg base 4 "is_errand" f_is_errand) (F__law_refused : FnF P w K mg base 10 "_law_refused" f__law_refused) (F__law_changed_right : FnF P w K mg base 11 "_law_changed_right" f__law_changed_right) (F__law_pool : FrF P w K mg base 1 "_law_pool" f__law_pool) (M_own_keys : MtF P w K mg base 1 m_Person_own_keys) (M___eq__ : MtF P w K mg base 1 m_Person___eq__) (C_Person : MkF P w K mg base 6 "Person" k_Person) (C_Person_kw : MkKF P w K mg base 6 "Person" k_Person_kw ["name", "errands", "home", "leaves"]) (nf_Person : NFo K "Person") (z_list : mg "list" = none) (z_tuple : mg "tuple" = none) (z_range : mg "range" = none) (z_len : mg "len" = none) (hC : ∀ C, C ∈ (["Person"] : List Str) → IsC K C) (hF : ClsF K ["Person"] ["name", "home", "leaves", "errands"]) :
    FnOk P w K mg base (L2.CX P w) 12 f fd ["_law_script"] (spF K 1 none (semB g_law 8 none b_law)) :=
  have S := sc_law
  fn_body F S (by decide) fun cdv A outer s H E hr =>
    (ss_cons (st_for (ps_for (passes_of rfl) rfl (i_seq (e_call F__law_rounds rfl (hr.mono (by decide)) (takes_of rfl rfl rfl rfl) rfl (aa_cons (e_v (i := 0) rfl (by first | exact .inl rfl | exact .inr (.inl rfl) | exact .inr (.inr rfl)) (by decide) (by decide)) aa_nil rfl) rfl)) (pg_name (i := 1) S.nd rfl (by first | exact .inl rfl | exact .inr rfl) (by first | exact .inl rfl | exact .inr rfl)) (ss_cons (st_new (ps_set (i := 2) S.nd rfl (by first | exact .inl rfl | exact .inr rfl) (l_call F__law_pool rfl (hr.mono (by decide)) (takes_of rfl rfl rfl rfl) rfl (as_cons (e_v (i := 0) rfl (by first | exact .inl rfl | exact .inr (.inl rfl) | exact .inr (.inr rfl)) (by decide) (by decide)) (as_cons (e_v (i := 1) rfl (by first | exact .inl rfl | exact .inr (.inl rfl) | exact .inr (.inr rfl)) (by decide) (by decide)) as_nil rfl) rfl) rfl) rfl (by first | exact .inl rfl | exact .inr rfl))) (ss_cons (st_asg (ps_set (i := 3) S.nd rfl (by first | exact .inl rfl | exact .inr rfl) (e_call F__law_drawn_errands rfl (hr.mono (by decide)) (takes_of rfl rfl rfl rfl) rfl (aa_cons (e_v (i := 2) rfl (by first | exact .inl rfl | exact .inr (.inl rfl) | exact .inr (.inr rfl)) (by decide) (by decide)) aa_nil rfl) rfl) rfl (by first | exact .inl rfl | exact .inr rfl))) (ss_cons (st_new (ps_set (i := 4) S.nd rfl (by first | exact .inl rfl | exact .inr rfl) (l_copy call_list_of (by rfl) z_list (e_v (i := 3) rfl (by first | exact .inl rfl | exact .inr (.inl rfl) | exact .inr (.inr rfl)) (by decide) (by decide)) (by rfl)) rfl (by first | exact .inl rfl | exact .inr rfl))) (ss_cons (st_asg (ps_set (i := 5) S.nd rfl (by first | exact .inl rfl | exact .inr rfl) (e_makeL C_Person rfl (hr.mono (by decide)) (takes_of rfl rfl rfl rfl) rfl (ar_cons xs (ar_cons xs (ar_cons xi (ar_cons (e_v (i := 4) rfl (by first | exact .inl rfl | exact .inr (.inl rfl) | exact .inr (.inr rfl)) (by decide) (by decide)) ar_nil rfl) rfl) rfl) rfl) rfl) rfl (by first | exact .inl rfl | exact .inr rfl))) (ss_cons (st_expr (e_app (i := 4) rfl (by first | exact .inl rfl | exact .inr (.inl rfl) | exact .inr (.inr rfl)) (by decide) (by decide) xn rfl (by rfl) rfl) rfl) (ss_cons (st_if (y_ne (hu64 hr) (e_lst (as_cons (e_fld hF (by decide) (e_v (i := 5) rfl (by first | exact .inl rfl | exact .inr (.inl rfl) | exact .inr (.inr rfl)) (by decide) (by decide)) rfl) (as_cons (e_fld hF (by decide) (e_v (i := 5) rfl (by first | exact .inl rfl | exact .inr (.inl rfl) | exact .inr (.inr rfl)) (by decide) (by decide)) rfl) (as_cons (e_fld hF (by decide) (e_v (i := 5) rfl (by first | exact .inl rfl | exact .inr (.inl rfl) | exact .inr (.inr rfl)) (by decide) (by decide)) rfl) (as_cons (e_fld hF (by decide) (e_v (i := 5) rfl (by first | exact .inl rfl | exact .inr (.inl rfl) | exact .inr (.inr rfl)) (by decide) (by decide)) rfl) as_nil rfl) rfl) rfl) rfl)) (e_lst (as_cons xs (as_cons xs (as_cons xi (as_cons (b_tuple z_tuple rfl (e_v (i := 3) rfl (by first | exact .inl rfl | exact .inr (.inl rfl) | exact .inr (.inr rfl)) (by decide) (by decide)) rfl) as_nil rfl) rfl) rfl) rfl))) (ss_cons (st_ret xb) ss_nil) ss_nil) (ss_cons (st_if (y_ne (hu64 hr) (e_meth0 (m := m_Person_own_keys) M_own_keys rfl (hr.mono (by decide)) (takes_of rfl rfl rfl rfl) (e_v (i := 5) rfl (by first | exact .inl rfl | exact .inr (.inl rfl) | exact .inr (.inr rfl)) (by decide) (by decide)) rfl) (e_lc (own := [("_law_at", 6)]) rfl S.nd (i_rng1 rfl z_range (b_len z_len rfl (e_v (i := 3) rfl (by first | exact .inl rfl | exact .inr (.inl rfl) | exact .inr (.inr rfl)) (by decide) (by decide)) rfl) rfl) (blkOk_by (N := ["_law_script", "_law_k", "_law_source", "_law_rows", "_law_told", "_law_person", "_law_at", "_law_one_here"]) (sc := defScope (top 36)) (by decide +kernel)) (fun _ _ _ _ _ => (pg_name (i := 6) S.nd rfl (by first | exact .inl rfl | exact .inr rfl) (by first | exact .inl rfl | exact .inr rfl))) (fun _ _ _ _ _ => (pts_one (y_isnot (e_ix (e_v (i := 3) rfl (by first | exact .inl rfl | exact .inr (.inl rfl) | exact .inr (.inr rfl)) (by decide) (by decide)) (e_v (i := 6) rfl (by first | exact .inl rfl | exact .inr (.inl rfl) | exact .inr (.inr rfl)) (by decide) (by decide)) (fun _ _ => rfl)) xn))) (fun _ _ _ _ _ => (e_tup (as_cons xs (as_cons (e_v (i := 6) rfl (by first | exact .inl rfl | exact .inr (.inl rfl) | exact .inr (.inr rfl)) (by decide) (by decide)) as_nil rfl) rfl))) (fun _ => rfl))) (ss_cons (st_ret xb) ss_nil) ss_nil) (ss_cons (st_if (y_ne (hu64 hr) (e_lc (own := [("_law_one_here", 7)]) rfl S.nd (i_seq (e_v (i := 3) rfl (by first | exact .inl rfl | exact .inr (.inl rfl) | exact .inr (.inr rfl)) (by decide) (by decide))) (blkOk_by (N := ["_law_script", "_law_k", "_law_source", "_law_rows", "_law_told", "_law_person", "_law_at", "_law_one_here"]) (sc := defScope (top 36)) (by decide +kernel)) (fun _ _ _ _ _ => (pg_name (i := 7) S.nd rfl (by first | exact .inl rfl | exact .inr rfl) (by first | exact .inl rfl | exact .inr rfl))) (fun _ _ _ _ _ => (pts_one (PW.pt (w_and (y_isnot (e_v (i := 7) rfl (by first | exact .inl rfl | exact .inr (.inl rfl) | exact .inr (.inr rfl)) (by decide) (by decide)) xn) (w_and1 (y_isnot (e_call F_is_errand rfl (hr.mono (by decide)) takes0 rfl (aa_cons (e_v (i := 7) rfl (by first | exact .inl rfl | exact .inr (.inl rfl) | exact .inr (.inr rfl)) (by decide) (by decide)) aa_nil rfl) rfl) xb)))))) (fun _ _ _ _ _ => (e_v (i := 7) rfl (by first | exact .inl rfl | exact .inr (.inl rfl) | exact .inr (.inr rfl)) (by decide) (by decide))) (fun _ => rfl)) (e_lst as_nil)) (ss_cons (st_ret xb) ss_nil) ss_nil) (ss_cons (st_if (PW.pt (w_or (t_onq (m := m_Person___eq__) M___eq__ rfl (hC _ (.head _)) nf_Person rfl (hr.mono (by decide)) (takes_of rfl rfl rfl rfl) (e_v (i := 5) rfl (by first | exact .inl rfl | exact .inr (.inl rfl) | exact .inr (.inr rfl)) (by decide) (by decide)) (e_makek C_Person_kw rfl (hr.mono (by decide)) (takes_of rfl rfl rfl rfl) rfl (ak_cons xs (ak_cons (b_tuple z_tuple rfl (e_v (i := 3) rfl (by first | exact .inl rfl | exact .inr (.inl rfl) | exact .inr (.inr rfl)) (by decide) (by decide)) rfl) (ak_cons xs (ak_cons xi ak_nil)))) rfl rfl rfl rfl) rfl) (w_or1 (t_oeq (m := m_Person___eq__) M___eq__ rfl (hC _ (.head _)) nf_Person rfl (hr.mono (by decide)) (takes_of rfl rfl rfl rfl) (e_v (i := 5) rfl (by first | exact .inl rfl | exact .inr (.inl rfl) | exact .inr (.inr rfl)) (by decide) (by decide)) (e_v (i := 3) rfl (by first | exact .inl rfl | exact .inr (.inl rfl) | exact .inr (.inr rfl)) (by decide) (by decide)) rfl)))) (ss_cons (st_ret xb) ss_nil) ss_nil) (ss_cons (st_if (PW.pt (w_or (t_oeq (m := m_Person___eq__) M___eq__ rfl (hC _ (.head _)) nf_Person rfl (hr.mono (by decide)) (takes_of rfl rfl rfl rfl) (e_v (i := 5) rfl (by first | exact .inl rfl | exact .inr (.inl rfl) | exact .inr (.inr rfl)) (by decide) (by decide)) (e_make C_Person rfl (hr.mono (by decide)) (takes_of rfl rfl rfl rfl) rfl (as_cons xs (as_cons xs (as_cons xi (as_cons (e_v (i := 3) rfl (by first | exact .inl rfl | exact .inr (.inl rfl) | exact .inr (.inr rfl)) (by decide) (by decide)) as_nil rfl) rfl) rfl) rfl) rfl) rfl) (w_or1 (t_oeq (m := m_Person___eq__) M___eq__ rfl (hC _ (.head _)) nf_Person rfl (hr.mono (by decide)) (takes_of rfl rfl rfl rfl) (e_v (i := 5) rfl (by first | exact .inl rfl | exact .inr (.inl rfl) | exact .inr (.inr rfl)) (by decide) (by decide)) (e_make C_Person rfl (hr.mono (by decide)) (takes_of rfl rfl rfl rfl) rfl (as_cons xs (as_cons xs (as_cons xi (as_cons (e_v (i := 3) rfl (by first | exact .inl rfl | exact .inr (.inl rfl) | exact .inr (.inr rfl)) (by decide) (by decide)) as_nil rfl) rfl) rfl) rfl) rfl) rfl)))) (ss_cons (st_ret xb) ss_nil) ss_nil) (ss_cons (st_if (t_oeq (m := m_Person___eq__) M___eq__ rfl (hC _ (.head _)) nf_Person rfl (hr.mono (by decide)) (takes_of rfl rfl rfl rfl) (e_v (i := 5) rfl (by first | exact .inl rfl | exact .inr (.inl rfl) | exact .inr (.inr rfl)) (by decide) (by decide)) (e_make C_Person rfl (hr.mono (by decide)) (takes_of rfl rfl rfl rfl) rfl (as_cons xs (as_cons xs (as_cons xi (as_cons (e_v (i := 3) rfl (by first | exact .inl rfl | exact .inr (.inl rfl) | exact .inr (.inr rfl)) (by decide) (by decide)) as_nil rfl) rfl) rfl) rfl) rfl) rfl) (ss_cons (st_ret xb) ss_nil) ss_nil) (ss_cons (st_if (PW.pt (w_and (y_lt (b_len z_len rfl (e_v (i := 3) rfl (by first | exact .inl rfl | exact .inr (.inl rfl) | exact .inr (.inr rfl)) (by decide) (by decide)) rfl) xi) (w_and1 (t_oeq (m := m_Person___eq__) M___eq__ rfl (hC _ (.head _)) nf_Person rfl (hr.mono (by decide)) (takes_of rfl rfl rfl rfl) (e_v (i := 5) rfl (by first | exact .inl rfl | exact .inr (.inl rfl) | exact .inr (.inr rfl)) (by decide) (by decide)) (e_make C_Person rfl (hr.mono (by decide)) (takes_of rfl rfl rfl rfl) rfl (as_cons xs (as_cons xs (as_cons xi (as_cons (x_add (e_v (i := 3) rfl (by first | exact .inl rfl | exact .inr (.inl rfl) | exact .inr (.inr rfl)) (by decide) (by decide)) (e_lst (as_cons xn as_nil rfl))) as_nil rfl) rfl) rfl) rfl) rfl) rfl)))) (ss_cons (st_ret xb) ss_nil) ss_nil) (ss_cons (st_if (PW.pt (w_or (t_not (t_truth (e_call F__law_refused rfl (hr.mono (by decide)) (takes_of rfl rfl rfl rfl) rfl (aa_cons (e_v (i := 2) rfl (by first | exact .inl rfl | exact .inr (.inl rfl) | exact .inr (.inr rfl)) (by decide) (by decide)) (aa_cons (e_v (i := 3) rfl (by first | exact .inl rfl | exact .inr (.inl rfl) | exact .inr (.inr rfl)) (by decide) (by decide)) aa_nil rfl) rfl) rfl) (fun _ => rfl))) (w_or1 (t_not (t_truth (e_call F__law_changed_right rfl (hr.mono (by decide)) (takes_of rfl rfl rfl rfl) rfl (aa_cons (e_v (i := 2) rfl (by first | exact .inl rfl | exact .inr (.inl rfl) | exact .inr (.inr rfl)) (by decide) (by decide)) (aa_cons (e_v (i := 5) rfl (by first | exact .inl rfl | exact .inr (.inl rfl) | exact .inr (.inr rfl)) (by decide) (by decide)) (aa_cons (e_v (i := 3) rfl (by first | exact .inl rfl | exact .inr (.inl rfl) | exact .inr (.inr rfl)) (by decide) (by decide)) aa_nil rfl) rfl) rfl) rfl) (fun _ => rfl)))))) (ss_cons (st_ret xb) ss_nil) ss_nil) ss_nil))))))))))))) (fun _ => rfl))) (ss_cons (st_ret xb) ss_nil))
end
end Mp
set_option maxHeartbeats 4000000
namespace Mp
open PySem L2
variable [TabsW] [GdW]
theorem len_lst (ds : List D) : bltD .len [.lst ds] = some (.int ds.length) := rfl
theorem max_nat (a b : Nat) : bltD .max2 [.int (a : Int), .int (b : Int)] = some (.int ((max a b : Nat) : Int)) := by
  show some (D.int (if (b : Int) > (a : Int) then (b : Int) else (a : Int))) = _
  congr 2
  split <;> omega
end Mp
set_option maxHeartbeats 4000000
namespace Mp
open PySem L2
variable [TabsW] [GdW]
theorem s_whole (n : Nat) : f_is_whole.sem [.int n] = .ok (.bl true) [] := by rfl
end Mp
set_option maxHeartbeats 4000000
namespace Mp
open PySem L2
variable [TabsW] [GdW]
/-- a slot's content that may be overwritten -/
def frC : Option Cell → Bool
  | some (.io _) => false
  | some (.slf _ _ _) => false
  | _ => true
theorem freeB_eq (env : Env) (i : Nat) : freeB env i = match env[i]? with
    | some x => frC x
    | none => false := by
  unfold freeB
  cases env[i]? with
  | none => rfl
  | some x => cases x with
    | none => rfl
    | some c => cases c <;> rfl
@[simp] theorem frC_none : frC none = true := rfl
@[simp] theorem frC_dat (d) : frC (some (.dat d)) = true := rfl
@[simp] theorem frC_own (d) : frC (some (.own d)) = true := rfl
end Mp
set_option maxHeartbeats 4000000
set_option maxHeartbeats 4000000
namespace Mp
open PySem L2
variable [TabsW] [GdW]
theorem s_between (n lo hi : Nat) (h1 : lo ≤ n) (h2 : n ≤ hi) : f_is_between.sem [.int n, .int lo, .int hi] = .ok (.bl true) [] := by
  have c1 : decide ((lo : Int) ≤ (n : Int)) = true := decide_eq_true (by omega)
  have c2 : decide ((n : Int) ≤ (hi : Int)) = true := decide_eq_true (by omega)
  have q := s_whole n
  show semB g_is_between 3 none b_is_between [.int n, .int lo, .int hi] = _
  unfold semB b_is_between
  simp [evSs, evS, evs, evr, truR, startE, cellsF, cellF, evq_c, evq_v, evq_bin, evq_cmp, evq_chn, evq_and_, evq_or_, evq_not_, evq_neg, evq_ite, evq_tup, evq_lst, evq_ix, evq_blt, evq_isin, Mp.R.bind, Mp.R.take, Mp.R.toS, SR.seq, takeO, rdO, cellAt, content, truD, runF, outE, lift, cl_is_between_0, q, cmpD, c1, c2, h1, h2]
end Mp
set_option maxHeartbeats 4000000
namespace Mp
open PySem L2
variable [TabsW] [GdW]
/-- the state of the draws -/
def src (a b : Int) : List D := [.int a, .int b]
theorem io_call {G : Ctx} {j i : Nat} {f : Fn} {es : List IR} {env env' : Env} {ds ds' out vs : List D} {d : D} (hj : G.fns[j]? = some f) (hio : f.io = some 0) (hn : es.length + 1 = f.n) (hi : env[i]? = some (some (.io ds)))
    (he : evs G es env = .ok vs env') (hi' : env'[i]? = some (some (.io ds'))) (hs : f.sem (.lst ds' :: vs) = .ok d out) : ev G (.call j (.v i :: es)) env = .ok (.val d) (env'.set i (some (.io out))) := by
  rw [ev_call_io hj hio hn (.inr hi), he]
  have hc : cellAt env' i = some (.io ds') := by unfold cellAt; rw [hi']; rfl
  show (match (cellAt env' i).map content with
      | some d0 => frR env' (some 0) [i] (f.sem (d0 :: vs))
      | none => .bad) = _
  rw [hc]
  show frR env' (some 0) [i] (f.sem (.lst ds' :: vs)) = _
  rw [hs]
  unfold frR
  dsimp only
  rw [hc]
theorem own_call {G : Ctx} {j i : Nat} {f : Fn} {es : List IR} {env env' : Env} {ds ds' out vs : List D} {d : D} (hj : G.fns[j]? = some f) (hio : f.io = some 0) (hn : es.length + 1 = f.n) (hi : env[i]? = some (some (.own ds)))
    (he : evs G es env = .ok vs env') (hi' : env'[i]? = some (some (.own ds'))) (hs : f.sem (.lst ds' :: vs) = .ok d out) : ev G (.call j (.v i :: es)) env = .ok (.val d) (env'.set i (some (.own out))) := by
  rw [ev_call_io hj hio hn (.inl hi), he]
  have hc : cellAt env' i = some (.own ds') := by unfold cellAt; rw [hi']; rfl
  show (match (cellAt env' i).map content with
      | some d0 => frR env' (some 0) [i] (f.sem (d0 :: vs))
      | none => .bad) = _
  rw [hc]
  show frR env' (some 0) [i] (f.sem (.lst ds' :: vs)) = _
  rw [hs]
  unfold frR
  dsimp only
  rw [hc]
theorem s_take (a b : Int) (t : Nat) (h0 : 0 < t) (h1 : t < 1073741824) : ∃ (d : Nat) (a' b' : Int), d < t ∧ f__law_take.sem [.lst (src a b), .int t] = .ok (.int d) (src a' b') := by
  have ht : (0 : Int) < (t : Int) := by omega
  have ht2 : (t : Int) < 1073741824 := by omega
  by_cases ha : 0 < a
  · refine ⟨(a % t).toNat, a / t, b, ?_, ?_⟩
    · have := Int.emod_lt_of_pos a ht
      have := Int.emod_nonneg a (Int.ne_of_gt ht)
      omega
    · have e : (((a % t).toNat : Nat) : Int) = a % t := Int.toNat_of_nonneg (Int.emod_nonneg a (Int.ne_of_gt ht))
      have g0 : atI [D.int a, D.int b] 0 = some (.int a) := rfl
      have gi (i : Int) : bltD .int [.int i] = some (.int i) := rfl
      show semB g__law_take 3 (some 0) b__law_take [.lst (src a b), .int t] = _
      unfold semB b__law_take
      rw [e]
      simp [evSs, evS, evs, evr, truR, startE, cellsF, cellF, evq_c, evq_v, evq_bin, evq_cmp, evq_chn, evq_and_, evq_or_, evq_not_, evq_neg, evq_ite, evq_tup, evq_lst, evq_ix, evq_blt, evq_isin, Mp.R.bind, Mp.R.take, Mp.R.toS, SR.seq, takeO, rdO, cellAt, content, truD, runF, outE, lift, src, ixD, g0, cmpD, ha, gi, binD, modD, fdivD, ht, ht2, h0, h1, bindT, freeB_eq, placeB, List.lookup, R.rd]
  · refine ⟨((((b * 39373 + 7) % 2147483647 * ((b * 39373 + 7) % 2147483647)) % 2147483629 / 32) % t).toNat, a, (b * 39373 + 7) % 2147483647, ?_, ?_⟩
    · have := Int.emod_lt_of_pos (((b * 39373 + 7) % 2147483647 * ((b * 39373 + 7) % 2147483647)) % 2147483629 / 32) ht
      have := Int.emod_nonneg (((b * 39373 + 7) % 2147483647 * ((b * 39373 + 7) % 2147483647)) % 2147483629 / 32) (Int.ne_of_gt ht)
      omega
    · have e : (((((((b * 39373 + 7) % 2147483647 * ((b * 39373 + 7) % 2147483647)) % 2147483629 / 32) % t).toNat) : Nat) : Int) = (((b * 39373 + 7) % 2147483647 * ((b * 39373 + 7) % 2147483647)) % 2147483629 / 32) % t := Int.toNat_of_nonneg (Int.emod_nonneg _ (Int.ne_of_gt ht))
      rw [e]
      have c0 : (0 : Int) ≤ (b * 39373 + 7) % 2147483647 := Int.emod_nonneg _ (by decide)
      have c1 : (b * 39373 + 7) % 2147483647 < 2147483647 := Int.emod_lt_of_pos _ (by decide)
      have m1 : mulD (.int b) (.int 39373) = some (.int (b * 39373)) := by unfold mulD; exact if_pos (.inr (by decide))
      generalize hc : (b * 39373 + 7) % 2147483647 = c at c0 c1 ⊢
      have m2 : mulD (.int c) (.int c) = some (.int (c * c)) := by unfold mulD; exact if_pos (.inl (by omega))
      have g0 : atI [D.int a, D.int b] 0 = some (.int a) := rfl
      have g1 : atI [D.int a, D.int b] 1 = some (.int b) := rfl
      have g2 : atI [D.int a, D.int c] 1 = some (.int c) := rfl
      have gi (i : Int) : bltD .int [.int i] = some (.int i) := rfl
      show semB g__law_take 3 (some 0) b__law_take [.lst (src a b), .int t] = _
      unfold semB b__law_take
      simp [evSs, evS, evs, evr, truR, startE, cellsF, cellF, evq_c, evq_v, evq_bin, evq_cmp, evq_chn, evq_and_, evq_or_, evq_not_, evq_neg, evq_ite, evq_tup, evq_lst, evq_ix, evq_blt, evq_isin, Mp.R.bind, Mp.R.take, Mp.R.toS, SR.seq, takeO, rdO, cellAt, content, truD, runF, outE, lift, src, ixD, g0, g1, g2, cmpD, ha, gi, binD, modD, fdivD, addD, m1, m2, hc, ht, ht2, h0, h1, bindT, freeB_eq, placeB, R.rd]
end Mp
set_option maxHeartbeats 400000
namespace Mp
open PySem L2
variable [TabsW] [GdW]
theorem s_one (a b : Int) (ds : List D) (h0 : 0 < ds.length) (h1 : ds.length < 1073741824) : ∃ (d : D) (a' b' : Int), d ∈ ds ∧ f__law_one.sem [.lst (src a b), .lst ds] = .ok d (src a' b') := by
  obtain ⟨d, a', b', hd, h⟩ := s_take a b ds.length h0 h1
  refine ⟨ds[d], a', b', List.getElem_mem _, ?_⟩
  have hx : atI ds (d : Int) = some ds[d] := by
    unfold atI
    rw [ix_in' (by omega) (by omega)]
    show ds[(d : Int).toNat]? = _
    rw [Int.toNat_natCast]; exact List.getElem?_eq_getElem hd
  have L : evs g__law_one [.blt .len [.v 1]] [some (.io (src a b)), some (.dat (.lst ds))] = .ok [.int ds.length] [some (.io (src a b)), some (.dat (.lst ds))] := rfl
  have C := io_call (G := g__law_one) (j := 0) (i := 0) (f := f__law_take) (env := [some (.io (src a b)), some (.dat (.lst ds))]) rfl rfl rfl rfl L rfl h
  show semB g__law_one 2 (some 0) b__law_one [.lst (src a b), .lst ds] = _
  unfold semB b__law_one
  generalize hs : src a b = s at C ⊢
  simp [evSs, evS, evs, evr, truR, startE, cellsF, cellF, evq_c, evq_v, evq_bin, evq_cmp, evq_chn, evq_and_, evq_or_, evq_not_, evq_neg, evq_ite, evq_tup, evq_lst, evq_ix, evq_blt, evq_isin, Mp.R.bind, Mp.R.take, Mp.R.toS, SR.seq, takeO, rdO, cellAt, content, truD, runF, outE, lift, C, ixD, hx]
theorem s_rounds (ds : List D) : f__law_rounds.sem [.lst ds] = .ok (.lst (iotaD 0 (max 1 (min ds.length 3)))) [] := by
  have e1 : bltD .min2 [.int (ds.length : Int), .int 3] = some (.int ((min ds.length 3 : Nat) : Int)) := by
    show some (D.int (if (3 : Int) < (ds.length : Int) then 3 else (ds.length : Int))) = _
    congr 2; split <;> omega
  have e2 : bltD .max2 [.int 1, .int ((min ds.length 3 : Nat) : Int)] = some (.int ((max 1 (min ds.length 3) : Nat) : Int)) := max_nat 1 (min ds.length 3)
  have hb : BIG = 100000 := rfl
  show semB g__law_rounds 1 none b__law_rounds [.lst ds] = _
  unfold semB b__law_rounds
  generalize hk : max 1 (min ds.length 3) = k at e2 ⊢
  have hk4 : k ≤ 4 := by omega
  have c1 : -1000000 ≤ (k : Int) := by omega
  have c2 : (k : Int) ≤ 100000 := by omega
  generalize min ds.length 3 = l at e1 e2
  simp [evSs, evS, evs, evr, truR, startE, cellsF, cellF, evq_c, evq_v, evq_bin, evq_cmp, evq_chn, evq_and_, evq_or_, evq_not_, evq_neg, evq_ite, evq_tup, evq_lst, evq_ix, evq_blt, evq_isin, Mp.R.bind, Mp.R.take, Mp.R.toS, SR.seq, takeO, rdO, cellAt, content, truD, runF, outE, lift, len_lst, e1, e2, evq_lrng, R.rd, c1, c2, hb]
end Mp
set_option maxHeartbeats 1000000
namespace Mp
open PySem L2
variable [TabsW] [GdW]
theorem at_map {α : Type} (f : α → D) (l : List α) (p : Nat) (x : α) (h : l[p]? = some x) : atI (l.map f) (p : Int) = some (f x) := by
  have hp : p < l.length := (List.getElem?_eq_some_iff.mp h).1
  unfold atI
  rw [ix_in' (by omega) (by simp; omega)]
  show (l.map f)[(p : Int).toNat]? = _
  rw [Int.toNat_natCast, List.getElem?_map, h]
  rfl
end Mp
set_option maxHeartbeats 1000000
namespace Mp
open PySem L2
variable [TabsW] [GdW]
def dT (s : Nat × Nat) : D := .tup [.int s.1, .int s.2]
/-- good spans -/
def PW (ss : List (Nat × Nat)) : Prop := ss.Pairwise fun a b => a.2 < b.1
end Mp
set_option maxHeartbeats 1000000
namespace Mp
open PySem L2
variable [TabsW] [GdW]
theorem m5t : powD (.int 10) (.int 18) = some (.int (1000000000000000000)) := by
  show (if 0 ≤ (18:Int) ∧ (18:Int) ≤ 1000000 ∧ (10:Int).natAbs < 18446744073709551616 then some (D.int ((10:Int) ^ (18:Int).toNat)) else none) = _
  rw [if_pos (by decide)]
  have : (10 : Int) ^ (18 : Int).toNat = 1000000000000000000 := by decide
  rw [this]
theorem pow_run (env : Env) : ev g__law_pool (.bin .pow (.c (.int 10)) (.c (.int 18))) env = .ok (.val (.int 1000000000000000000)) env := by
  rw [evq_bin, evq_c]
  show (ev g__law_pool (.c (.int 18)) env).bind (fun y e2 => match rdO e2 (.val (.int 10)), rdO e2 y with
    | some p, some q => lift e2 (binD .pow p q)
    | _, _ => .bad) = _
  rw [evq_c]
  show lift env (powD (.int 10) (.int 18)) = _
  rw [m5t]
  rfl
theorem pool_mix (L : List D) (k c g P Q A B C E : Int) (m1 : mulD (.int A) (.int k) = some (.int (A * k))) (m2 : mulD (.int (A * k)) (.int k) = some (.int (A * k * k))) (m3 : mulD (.int B) (.int k) = some (.int (B * k))) (m4 : ∀ x, mulD (.int x) (.int E) = some (.int (x * E)))
    (md : ∀ x, modD (.int x) (.int P) = some (.int (x % P))) (md2 : ∀ x, modD (.int x) (.int Q) = some (.int (x % Q))) :
    evS g__law_pool (.asg (.name 4) (.bin .mod (.blt .int [.bin .mul (.bin .add (.bin .add (.bin .add (.bin .mod (.blt .int [.v 3]) (.c (.int P))) (.bin .mul (.bin .mul (.c (.int A)) (.v 1)) (.v 1))) (.bin .mul (.c (.int B)) (.v 1))) (.c (.int C))) (.c (.int E))]) (.c (.int Q)))) [some (.dat (.lst L)), some (.dat (.int k)), some (.dat (.int c)), some (.dat (.int g)), none] = .nx [some (.dat (.lst L)), some (.dat (.int k)), some (.dat (.int c)), some (.dat (.int g)), some (.dat (.int (((g % P + A * k * k + B * k + C) * E) % Q)))] := by
  have gi (i : Int) : bltD .int [.int i] = some (.int i) := rfl
  have ad (x y : Int) : addD (.int x) (.int y) = some (.int (x + y)) := rfl
  simp [evSs, evS, evs, evr, truR, startE, cellsF, cellF, evq_c, evq_v, evq_bin, evq_cmp, evq_chn, evq_and_, evq_or_, evq_not_, evq_neg, evq_ite, evq_tup, evq_lst, evq_ix, evq_blt, evq_isin, Mp.R.bind, Mp.R.take, Mp.R.toS, SR.seq, takeO, rdO, cellAt, content, truD, runF, outE, lift, gi, binD, ad, m1, m2, m3, m4, md, md2, bindT, freeB_eq]
theorem seq_nx {e : Env} {k : Env → SR} : (SR.nx e).seq k = k e := rfl
theorem s_pool (ns : List Int) (k : Nat) (hk : k < 100) : ∃ a b, f__law_pool.sem [.lst (ns.map .int), .int k] = .ok (.lst (src a b)) [] := by
  obtain ⟨c, hc⟩ : ∃ c : Int, evSs g__law_pool [.asg (.name 2) (.c (.int 0)), .if_ (.cmp .lt (.v 1) (.blt .len [.v 0])) [.asg (.name 2) (.ix (.v 0) (.v 1))] []] [some (.dat (.lst (ns.map .int))), some (.dat (.int k)), none, none, none] = .nx [some (.dat (.lst (ns.map .int))), some (.dat (.int k)), some (.dat (.int c)), none, none] := by
    have hlen : bltD .len [.lst (ns.map .int)] = some (.int ns.length) := by show some (D.int ((ns.map D.int).length : Nat)) = _; simp
    by_cases h : k < ns.length
    · have hx : atI (ns.map D.int) (k : Int) = some (D.int ns[k]) := at_map _ ns k _ (List.getElem?_eq_getElem h)
      have c1 : cmpD .lt (.int (k : Int)) (.int (ns.length : Int)) = some true := by show some (decide _) = _; rw [decide_eq_true (by omega)]
      refine ⟨ns[k], ?_⟩
      generalize ns[k] = z at *
      simp [evSs, evS, evs, evr, truR, startE, cellsF, cellF, evq_c, evq_v, evq_bin, evq_cmp, evq_chn, evq_and_, evq_or_, evq_not_, evq_neg, evq_ite, evq_tup, evq_lst, evq_ix, evq_blt, evq_isin, Mp.R.bind, Mp.R.take, Mp.R.toS, SR.seq, takeO, rdO, cellAt, content, truD, runF, outE, lift, hlen, c1, ixD, hx, bindT, freeB_eq]
    · have c1 : cmpD .lt (.int (k : Int)) (.int (ns.length : Int)) = some false := by show some (decide _) = _; rw [decide_eq_false (by omega)]
      refine ⟨0, ?_⟩
      simp [evSs, evS, evs, evr, truR, startE, cellsF, cellF, evq_c, evq_v, evq_bin, evq_cmp, evq_chn, evq_and_, evq_or_, evq_not_, evq_neg, evq_ite, evq_tup, evq_lst, evq_ix, evq_blt, evq_isin, Mp.R.bind, Mp.R.take, Mp.R.toS, SR.seq, takeO, rdO, cellAt, content, truD, runF, outE, lift, hlen, c1, ixD, bindT, freeB_eq]
  obtain ⟨g, hg⟩ : ∃ g : Int, bltD .max2 [.int c, .int (-1 - c)] = some (.int g) := ⟨_, rfl⟩
  have gi (i : Int) : bltD .int [.int i] = some (.int i) := rfl
  have m1 : mulD (.int 7919) (.int (k : Int)) = some (.int (7919 * k)) := by unfold mulD; exact if_pos (.inl (by decide))
  have m2 : mulD (.int (7919 * (k : Int))) (.int (k : Int)) = some (.int (7919 * k * k)) := by unfold mulD; exact if_pos (.inr (by omega))
  have m3 : mulD (.int 31) (.int (k : Int)) = some (.int (31 * k)) := by unfold mulD; exact if_pos (.inl (by decide))
  have m4 (x : Int) : mulD (.int x) (.int 48271) = some (.int (x * 48271)) := by unfold mulD; exact if_pos (.inr (by decide))
  have m5 : powD (.int 10) (.int 18) = some (.int (1000000000000000000)) := m5t
  obtain ⟨z, hz, m6⟩ : ∃ z : Bool, cmpD .ge (.int g) (.int 1000000000000000000) = some z ∧ mulD (.int g) (.int (if z then 1 else 0)) = some (.int (g * (if z then 1 else 0))) := by
    refine ⟨_, rfl, ?_⟩
    unfold mulD
    exact if_pos (.inr (by split <;> decide))
  have gb (b : Bool) : bltD .int [.bl b] = some (.int (if b then 1 else 0)) := rfl
  have md (x : Int) : modD (.int x) (.int 2147483629) = some (.int (x % 2147483629)) := by unfold modD; exact if_pos (by decide)
  have md2 (x : Int) : modD (.int x) (.int 2147483647) = some (.int (x % 2147483647)) := by unfold modD; exact if_pos (by decide)
  have ad (x y : Int) : addD (.int x) (.int y) = some (.int (x + y)) := rfl
  have sb (x y : Int) : subD (.int x) (.int y) = some (.int (x - y)) := rfl
  have hb : 2 ≤ BIG := by decide
  refine ⟨g * (if z then 1 else 0), ((g % 2147483629 + 7919 * k * k + 31 * k + 17) * 48271) % 2147483647, ?_⟩
  generalize hw : (if z then (1 : Int) else 0) = w at *
  have e0 : b__law_pool = [.asg (.name 2) (.c (.int 0)), .if_ (.cmp .lt (.v 1) (.blt .len [.v 0])) [.asg (.name 2) (.ix (.v 0) (.v 1))] []] ++ [.asg (.name 3) (.blt .max2 [.blt .int [.v 2], .blt .int [.bin .sub (.neg (.c (.int 1))) (.v 2)]]), .asg (.name 4) (.bin .mod (.blt .int [.bin .mul (.bin .add (.bin .add (.bin .add (.bin .mod (.blt .int [.v 3]) (.c (.int 2147483629))) (.bin .mul (.bin .mul (.c (.int 7919)) (.v 1)) (.v 1))) (.bin .mul (.c (.int 31)) (.v 1))) (.c (.int 17))) (.c (.int 48271))]) (.c (.int 2147483647))), .retl (.lst [.bin .mul (.v 3) (.blt .int [.cmp .ge (.v 3) (.bin .pow (.c (.int 10)) (.c (.int 18)))]), .v 4])] := rfl
  have app : ∀ (G : Ctx) (as bs : List ST) (env : Env), evSs G (as ++ bs) env = (evSs G as env).seq fun e => evSs G bs e := by
    intro G as
    induction as with
    | nil => intro bs env; rw [List.nil_append]; conv => rhs; rw [evSs]
             rfl
    | cons s as ih =>
      intro bs env
      rw [List.cons_append, evSs, evSs]
      cases evS G s env with
      | nx e => exact ih bs e
      | _ => rfl
  have st : startE none 5 [D.lst (ns.map .int), D.int k] = [some (.dat (.lst (ns.map .int))), some (.dat (.int k)), none, none, none] := rfl
  obtain ⟨L, hL⟩ : ∃ L, ns.map D.int = L := ⟨_, rfl⟩
  rw [hL] at st hc ⊢
  have S1 : evS g__law_pool (.asg (.name 3) (.blt .max2 [.blt .int [.v 2], .blt .int [.bin .sub (.neg (.c (.int 1))) (.v 2)]])) [some (.dat (.lst L)), some (.dat (.int k)), some (.dat (.int c)), none, none] = .nx [some (.dat (.lst L)), some (.dat (.int k)), some (.dat (.int c)), some (.dat (.int g)), none] := by
    simp [evSs, evS, evs, evr, truR, startE, cellsF, cellF, evq_c, evq_v, evq_bin, evq_cmp, evq_chn, evq_and_, evq_or_, evq_not_, evq_neg, evq_ite, evq_tup, evq_lst, evq_ix, evq_blt, evq_isin, Mp.R.bind, Mp.R.take, Mp.R.toS, SR.seq, takeO, rdO, cellAt, content, truD, runF, outE, lift, gi, hg, binD, sb, bindT, freeB_eq]
  have S2 := pool_mix L k c g 2147483629 2147483647 7919 31 17 48271 m1 m2 m3 m4 md md2
  have S3 (m : Int) : evS g__law_pool (.retl (.lst [.bin .mul (.v 3) (.blt .int [.cmp .ge (.v 3) (.bin .pow (.c (.int 10)) (.c (.int 18)))]), .v 4])) [some (.dat (.lst L)), some (.dat (.int k)), some (.dat (.int c)), some (.dat (.int g)), some (.dat (.int m))] = .rl (src (g * w) m) [some (.dat (.lst L)), some (.dat (.int k)), some (.dat (.int c)), some (.dat (.int g)), some (.dat (.int m))] := by
    simp [evSs, evS, evs, evr, truR, startE, cellsF, cellF, evq_c, evq_v, evq_bin, evq_cmp, evq_chn, evq_and_, evq_or_, evq_not_, evq_neg, evq_ite, evq_tup, evq_lst, evq_ix, evq_blt, evq_isin, Mp.R.bind, Mp.R.take, Mp.R.toS, SR.seq, takeO, rdO, cellAt, content, truD, runF, outE, lift, ↓pow_run, evL, binD, m6, hz, gb, hw, hb, src]
  have T0 : evSs g__law_pool b__law_pool (startE none 5 [D.lst L, D.int k]) = .rl (src (g * w) (((g % 2147483629 + 7919 * k * k + 31 * k + 17) * 48271) % 2147483647)) [some (.dat (.lst L)), some (.dat (.int k)), some (.dat (.int c)), some (.dat (.int g)), some (.dat (.int (((g % 2147483629 + 7919 * k * k + 31 * k + 17) * 48271) % 2147483647)))] := by
    rw [e0, app, st, hc, seq_nx, evSs, S1, seq_nx, evSs, S2, seq_nx, evSs, S3]
    unfold SR.seq
    dsimp only
  have U : f__law_pool.sem [.lst L, .int k] = semBF g__law_pool 5 b__law_pool [.lst L, .int k] := rfl
  rw [U, semBF, T0]
  exact if_pos hb
end Mp
set_option maxHeartbeats 4000000
set_option maxHeartbeats 4000000
namespace Mp
open PySem L2
variable [TabsW] [GdW]
theorem cut_from {l : List D} (k : Nat) : cutD l (some (k : Int)) none = l.drop k := by
  unfold cutD
  have e1 : HT.sIx l.length 0 (some (k : Int)) = min k l.length := HT.sIx_nat l.length 0 k
  have e2 : HT.sIx l.length l.length none = l.length := rfl
  rw [e1, e2]
  rcases Nat.le_total k l.length with h | h
  · rw [Nat.min_eq_left h, List.take_of_length_le (by rw [List.length_drop]; omega)]
  · rw [Nat.min_eq_right h, List.drop_eq_nil_of_le (Nat.le_refl _), List.drop_eq_nil_of_le h, List.take_nil]
theorem cut_to {l : List D} (k : Nat) : cutD l none (some (k : Int)) = l.take k := by
  unfold cutD
  have e1 : HT.sIx l.length l.length (some (k : Int)) = min k l.length := HT.sIx_nat l.length l.length k
  have e2 : HT.sIx l.length 0 none = 0 := rfl
  rw [e1, e2, List.drop_zero, Nat.sub_zero]
  rcases Nat.le_total k l.length with h | h
  · rw [Nat.min_eq_left h]
  · rw [Nat.min_eq_right h, List.take_of_length_le (Nat.le_refl _), List.take_of_length_le h]
theorem in_lst (x : D) (ys : List D) : cmpD .in_ x (.lst ys) = (if dataD 19 x && dataDs 19 ys then some (ys.any fun y => eqD y x) else none) := by cases x <;> rfl
theorem in_tup (x : D) (ys : List D) : cmpD .in_ x (.tup ys) = (if dataD 19 x && dataDs 19 ys then some (ys.any fun y => eqD y x) else none) := by cases x <;> rfl
/-- what stands where errands are asked for -/
structure Sq (C : D) (ds : List D) : Prop where
  sq : seqD C = some ds
  li : f_is_listed.sem [C] = .ok (.bl true) []
  ln : bltD .len [C] = some (.int ds.length)
  tp : bltD .tuple [C] = some (.tup ds)
  inn : ∀ (i : Nat), ∃ S, slD C none (some (i : Int)) = some S ∧ ∀ x, dataD 19 x = true → dataDs 19 (ds.take i) = true → cmpD .in_ x S = some ((ds.take i).any fun y => eqD y x)
theorem Sq.l (ds : List D) : Sq (.lst ds) ds := ⟨rfl, rfl, rfl, rfl, fun i => ⟨.lst (ds.take i), by show some (D.lst (cutD ds none (some (i : Int)))) = _; rw [cut_to], fun x h1 h2 => by
  rw [in_lst, h1, h2]; rfl⟩⟩
theorem Sq.t (ds : List D) : Sq (.tup ds) ds := ⟨rfl, rfl, rfl, rfl, fun i => ⟨.tup (ds.take i), by show some (D.tup (cutD ds none (some (i : Int)))) = _; rw [cut_to], fun x h1 h2 => by
  rw [in_tup, h1, h2]; rfl⟩⟩
section
variable {G : Ctx}
theorem x_slto {a b : IR} {E E1 E2 : Env} {C S : D} {i : Int} (h : ev G a E = .ok (.val C) E1) (h2 : ev G b E1 = .ok (.val (.int i)) E2) (hs : slD C none (some i) = some S) : ev G (.sl a none (some b)) E = .ok (.val S) E2 := by
  rw [evq_sl, h, Mp.R.bind_ok, evo, Mp.R.bind_ok, evo, h2]
  show lift E2 (slD C none (some i)) = _
  rw [hs]; rfl
theorem x_slfrom {a b : IR} {E E1 E2 : Env} {C S : D} {i : Int} (h : ev G a E = .ok (.val C) E1) (h2 : ev G b E1 = .ok (.val (.int i)) E2) (hs : slD C (some i) none = some S) : ev G (.sl a (some b) none) E = .ok (.val S) E2 := by
  rw [evq_sl, h, Mp.R.bind_ok, evo, h2]
  show lift E2 (slD C (some i) none) = _
  rw [hs]; rfl
theorem ss_ct {s : ST} {ss : List ST} {E E1 : Env} (h : evS G s E = .ct E1) : evSs G (s :: ss) E = .ct E1 := by
  rw [evSs, h]; rfl
theorem t_cont {E : Env} : evS G .cont E = .ct E := by rw [evS]
theorem sem_nx {m : Nat} {b : List ST} {ds : List D} {e : Env} (h : evSs G b (startE none m ds) = .nx e) : semB G m none b ds = .ok .non [] := by
  rw [semB, h]; rfl
theorem ev_enum {i : Nat} {C : D} {ds : List D} {env : Env} (h : seqD C = some ds) (hv : env[i]? = some (some (.dat C))) : evi G (.enum (.v i)) env = .ok (enumD 0 ds) env := by
  rw [evi, take_okD (x_v hv)]
  cases C with
  | lst _ => cases h; rfl
  | tup _ => cases h; rfl
  | _ => cases h
end
def den9 : D := .tup [.str "stay", .str "den", .int 9]
def drawnEs : List D := [.non, .tup [.str "meet", .str "talk"], .tup [.str "meet", .str "vote"]] ++ ((["stay", "counter", "room"] : List Str).flatMap fun k => (["a", "bank", "abcdefgh"] : List Str).flatMap fun p => ([0, 1, 60, 600] : List Int).map fun m => .tup [.str k, .str p, .int m])
def goodEs : List D := drawnEs ++ [den9, .tup [.str "stay", .str "a", .int 5]]
def isMt : D → Bool
  | .tup (.str s :: _) => s == "meet"
  | _ => false
def okE (x : D) : Bool := match f_is_errand.sem [x] with
  | .ok (.bl true) [] => true
  | _ => false
theorem okE_of {x : D} (h : okE x = true) : f_is_errand.sem [x] = .ok (.bl true) [] := by
  unfold okE at h
  split at h
  · assumption
  · cases h
def chkE (x : D) : Bool := (isNon x || (okE x && (match ixD x (.int 0) with
  | some f => (match cmpD .eq f (.str "meet") with
    | some b => b == isMt x
    | none => false)
  | none => false))) && (dataD 18 x && (dataD 19 x && nolD x))
theorem chk_all : goodEs.all chkE = true := by kernel_rfl
theorem mt_all : goodEs.all (fun y => goodEs.all fun x => !(isMt x && eqD y x && !isMt y)) = true := by kernel_rfl
end Mp
set_option maxHeartbeats 4000000
namespace Mp
open PySem L2
variable [TabsW] [GdW]
def bNeed : List ST := [.if_ (.cmp .is_ (.v 2) (.c .non)) [.cont] [], .if_ (.or_ (.not_ (.call 1 [.v 2])) (.and_ (.cmp .eq (.ix (.v 2) (.c (.int 0))) (.c (.str "meet"))) (.cmp .in_ (.v 2) (.sl (.v 0) none (some (.v 1)))))) [.raise "BadErrand" "index" (.v 1)] []]
structure Er (x : D) : Prop where
  ok : f_is_errand.sem [x] = .ok (.bl true) []
  ne : x ≠ .non
  fst : ∃ f, ixD x (.int 0) = some f ∧ cmpD .eq f (.str "meet") = some (isMt x)
def PassAt (xs : List D) (p : Nat) (x : D) : Prop := x = .non ∨ (Er x ∧ (isMt x = true → (xs.take p).any (fun y => eqD y x) = false))
def WrongAt (xs : List D) (p : Nat) (x : D) : Prop := x ≠ .non ∧ (f_is_errand.sem [x] = .ok (.bl false) [] ∨ (Er x ∧ isMt x = true ∧ (xs.take p).any (fun y => eqD y x) = true))
section
variable {C : D} {xs : List D}
theorem isD {x : D} (h : x ≠ .non) (hd : dataD 19 x = true) : cmpD .is_ x .non = some false := by
  cases x <;> first | exact absurd rfl h | rfl | (simp [dataD] at hd)
theorem in_pre (S : Sq C xs) (hd : ∀ x, x ∈ xs → dataD 19 x = true) (p : Nat) (x : D) (hx : x ∈ xs) {x1 : Int} (e : x1 = (p : Int)) : ev g_need_errands (.cmp .in_ (.v 2) (.sl (.v 0) none (some (.v 1)))) [some (.dat C), some (.dat (.int x1)), some (.dat x)] = .ok (.val (.bl ((xs.take p).any fun y => eqD y x))) [some (.dat C), some (.dat (.int x1)), some (.dat x)] := by
  subst e
  obtain ⟨T, h1, h2⟩ := S.inn p
  exact x_cmp (x_v rfl) (x_slto (x_v rfl) (x_v rfl) h1) (h2 x (hd x hx) (dataDs_all fun d h => hd d (List.mem_of_mem_take h)))
theorem ne_turn (S : Sq C xs) (hd : ∀ x, x ∈ xs → dataD 19 x = true) (p : Nat) (x : D) (hx : x ∈ xs) (h : PassAt xs p x) : evSs g_need_errands bNeed [some (.dat C), some (.dat (.int p)), some (.dat x)] = .ct [some (.dat C), some (.dat (.int p)), some (.dat x)] ∨ evSs g_need_errands bNeed [some (.dat C), some (.dat (.int p)), some (.dat x)] = .nx [some (.dat C), some (.dat (.int p)), some (.dat x)] := by
  rcases h with rfl | ⟨E, h⟩
  · left
    exact ss_ct ((t_if_t (x_cmp (x_v rfl) x_c (show cmpD .is_ .non .non = some true from rfl)) rfl).trans (ss_ct t_cont))
  · right
    obtain ⟨f, f1, f2⟩ := E.fst
    have N := x_notb (b := true) (call_ok (cl_need_errands_1 (a0 := .v 2) (env := [some (.dat C), some (.dat (.int p)), some (.dat x)])) (evs1 (x_v rfl)) E.ok)
    have M : ev g_need_errands (.cmp .eq (.ix (.v 2) (.c (.int 0))) (.c (.str "meet"))) [some (.dat C), some (.dat (.int p)), some (.dat x)] = .ok (.val (.bl (isMt x))) [some (.dat C), some (.dat (.int p)), some (.dat x)] := x_cmp (x_ix (x_v rfl) x_c f1) x_c f2
    have A : ev g_need_errands (.or_ (.not_ (.call 1 [.v 2])) (.and_ (.cmp .eq (.ix (.v 2) (.c (.int 0))) (.c (.str "meet"))) (.cmp .in_ (.v 2) (.sl (.v 0) none (some (.v 1)))))) [some (.dat C), some (.dat (.int p)), some (.dat x)] = .ok (.val (.bl false)) [some (.dat C), some (.dat (.int p)), some (.dat x)] := by
      refine (x_or_f N rfl).trans ?_
      cases hm : isMt x with
      | false => rw [hm] at M; exact x_and_f M rfl
      | true =>
        rw [hm] at M
        have q := in_pre S hd p x hx rfl
        rw [h hm] at q
        exact (x_and_t M rfl).trans q
    exact (ss_nx (t_if_f0 (x_cmp (x_v rfl) x_c (isD E.ne (hd x hx))))).trans ((ss_nx (t_if_f0 A)).trans ss0)
theorem ne_wrong (S : Sq C xs) (hd : ∀ x, x ∈ xs → dataD 19 x = true) (p : Nat) (x : D) (hx : x ∈ xs) (h : WrongAt xs p x) : evSs g_need_errands bNeed [some (.dat C), some (.dat (.int p)), some (.dat x)] = .exc "BadErrand" "index" (.int p) [some (.dat C), some (.dat (.int p)), some (.dat x)] := by
  obtain ⟨hn, h⟩ := h
  have A : ev g_need_errands (.or_ (.not_ (.call 1 [.v 2])) (.and_ (.cmp .eq (.ix (.v 2) (.c (.int 0))) (.c (.str "meet"))) (.cmp .in_ (.v 2) (.sl (.v 0) none (some (.v 1)))))) [some (.dat C), some (.dat (.int p)), some (.dat x)] = .ok (.val (.bl true)) [some (.dat C), some (.dat (.int p)), some (.dat x)] := by
    rcases h with h | ⟨E, hm, h⟩
    · exact x_or_t (x_notb (b := false) (call_ok (cl_need_errands_1 (a0 := .v 2) (env := [some (.dat C), some (.dat (.int p)), some (.dat x)])) (evs1 (x_v rfl)) h)) rfl
    · obtain ⟨f, f1, f2⟩ := E.fst
      rw [hm] at f2
      have q := in_pre S hd p x hx rfl
      rw [h] at q
      exact (x_or_f (x_notb (b := true) (call_ok (cl_need_errands_1 (a0 := .v 2) (env := [some (.dat C), some (.dat (.int p)), some (.dat x)])) (evs1 (x_v rfl)) E.ok)) rfl).trans ((x_and_t (x_cmp (x_ix (x_v rfl) x_c f1) x_c f2) rfl).trans q)
  exact (ss_nx (t_if_f0 (x_cmp (x_v rfl) x_c (isD hn (hd x hx))))).trans (ss_exc ((t_if_t A rfl).trans (ss_exc (t_raise (x_v rfl)))))
theorem bind2 (p : Nat) (x : D) {x1 x2 : Option Cell} (h1 : frC x1 = true) (h2 : frC x2 = true) : bindT (.tup [1, 2]) (.tup [.int (p : Int), x]) [some (.dat C), x1, x2] = some [some (.dat C), some (.dat (.int p)), some (.dat x)] := by
  unfold bindT
  simp [freeB_eq, h1, h2]
theorem drop_get {α : Type} {xs rest : List α} {p : Nat} {x : α} (h : xs.drop p = x :: rest) : xs[p]? = some x ∧ xs.drop (p + 1) = rest := by
  constructor
  · have : (xs.drop p)[0]? = some x := by rw [h]; rfl
    rw [List.getElem?_drop] at this
    simpa using this
  · rw [← List.drop_drop, h]; rfl
theorem ne_loop (S : Sq C xs) (hd : ∀ x, x ∈ xs → dataD 19 x = true) : ∀ (rest : List D) (p : Nat) (x1 x2 : Option Cell), xs.drop p = rest → frC x1 = true → frC x2 = true → (∀ j x, xs[j]? = some x → p ≤ j → PassAt xs j x) →
    ∃ y1 y2, forL (.tup [1, 2]) (fun e => evSs g_need_errands bNeed e) (enumD (p : Int) rest) [some (.dat C), x1, x2] = .nx [some (.dat C), y1, y2]
  | [], p, x1, x2, _, _, _, _ => ⟨x1, x2, rfl⟩
  | x :: rest, p, x1, x2, h, h1, h2, hp => by
    obtain ⟨g1, g2⟩ := drop_get h
    have hx := List.mem_of_getElem? g1
    obtain ⟨y1, y2, ih⟩ := ne_loop S hd rest (p + 1) (some (.dat (.int p))) (some (.dat x)) g2 rfl rfl fun j y hy hj => hp j y hy (by omega)
    refine ⟨y1, y2, ?_⟩
    rw [enumD, forL, bind2 p x h1 h2]
    dsimp only
    rcases ne_turn S hd p x hx (hp p x g1 (Nat.le_refl _)) with q | q <;> (rw [q]; exact ih)
theorem ne_bad (S : Sq C xs) (hd : ∀ x, x ∈ xs → dataD 19 x = true) (q : Nat) (z : D) (hz : xs[q]? = some z) (hw : WrongAt xs q z) : ∀ (rest : List D) (p : Nat) (x1 x2 : Option Cell), xs.drop p = rest → p ≤ q → frC x1 = true → frC x2 = true → (∀ j x, xs[j]? = some x → j < q → PassAt xs j x) →
    ∃ e, forL (.tup [1, 2]) (fun e => evSs g_need_errands bNeed e) (enumD (p : Int) rest) [some (.dat C), x1, x2] = .exc "BadErrand" "index" (.int q) e
  | [], p, x1, x2, h, hpq, _, _, _ => by
    have : xs.length ≤ p := List.drop_eq_nil_iff.mp h
    have := (List.getElem?_eq_some_iff.mp hz).1
    omega
  | x :: rest, p, x1, x2, h, hpq, h1, h2, hp => by
    obtain ⟨g1, g2⟩ := drop_get h
    have hx := List.mem_of_getElem? g1
    rw [enumD, forL, bind2 p x h1 h2]
    dsimp only
    by_cases e : p = q
    · subst e
      rw [g1] at hz
      cases hz
      rw [ne_wrong S hd p _ hx hw]
      exact ⟨_, rfl⟩
    · obtain ⟨e', ih⟩ := ne_bad S hd q z hz hw rest (p + 1) (some (.dat (.int p))) (some (.dat x)) g2 (by omega) rfl rfl hp
      refine ⟨e', ?_⟩
      rcases ne_turn S hd p x hx (hp p x g1 (by omega)) with w | w <;> (rw [w]; exact ih)
theorem gt_five {n : Nat} : cmpD .gt (.int (n : Int)) (.int 5) = some (decide (5 < n)) := by
  show some (decide ((5 : Int) < (n : Int))) = _
  congr 1
  exact decide_eq_decide.mpr (by omega)
theorem need_head (S : Sq C xs) (hl : xs.length ≤ 5) : evS g_need_errands (.if_ (.or_ (.not_ (.call 0 [.v 0])) (.cmp .gt (.blt .len [.v 0]) (.c (.int 5)))) [.raise "BadPart" "part" (.c (.str "errands"))] []) [some (.dat C), none, none] = .nx [some (.dat C), none, none] := by
  have g := gt_five (n := xs.length)
  rw [decide_eq_false (by omega)] at g
  exact t_if_f0 ((x_or_f (x_notb (b := true) (call_ok cl_need_errands_0 (evs1 (x_v rfl)) S.li)) rfl).trans (x_cmp (x_blt1 (x_v rfl) S.ln) x_c g))
theorem s_need_ok (S : Sq C xs) (hd : ∀ x, x ∈ xs → dataD 19 x = true) (hl : xs.length ≤ 5) (hp : ∀ j x, xs[j]? = some x → PassAt xs j x) : f_need_errands.sem [C] = .ok .non [] := by
  obtain ⟨y1, y2, F⟩ := ne_loop S hd xs 0 none none rfl rfl rfl fun j x h _ => hp j x h
  show semB g_need_errands 3 none b_need_errands [C] = _
  exact sem_nx ((ss_nx (need_head S hl)).trans ((ss_nx (t_for (ev_enum S.sq rfl) F)).trans ss0))
theorem s_need_bad (S : Sq C xs) (hd : ∀ x, x ∈ xs → dataD 19 x = true) (hl : xs.length ≤ 5) (q : Nat) (z : D) (hz : xs[q]? = some z) (hw : WrongAt xs q z) (hp : ∀ j x, xs[j]? = some x → j < q → PassAt xs j x) : f_need_errands.sem [C] = .exc "BadErrand" "index" (.int q) [] := by
  obtain ⟨e, F⟩ := ne_bad S hd q z hz hw xs 0 none none rfl (Nat.zero_le _) rfl rfl hp
  show semB g_need_errands 3 none b_need_errands [C] = _
  exact sem_exc ((ss_nx (need_head S hl)).trans (ss_exc (t_for (ev_enum S.sq rfl) F)))
end
end Mp
set_option maxHeartbeats 4000000
namespace Mp
open PySem L2
variable [TabsW] [GdW]
theorem bind_nm {E : Env} {i : Nat} {x : Option Cell} {d : D} (h : E[i]? = some x) (hx : frC x = true) : bindT (.name i) d E = some (E.set i (some (.dat d))) := by
  unfold bindT
  dsimp only
  rw [freeB_eq, h]
  exact if_pos hx
theorem sem_io {G : Ctx} {m : Nat} {b : List ST} {ds out : List D} {d : D} {e : Env} (h : evSs G b (startE (some 0) m ds) = .rt d e) (ho : e[0]? = some (some (.io out))) : semB G m (some 0) b ds = .ok d out := by
  rw [semB, h]
  show (match outE (some 0) e with
      | some out => FR.ok d out
      | none => .bad) = _
  have : outE (some 0) e = some out := by
    unfold outE
    dsimp only
    rw [ho]
  rw [this]
theorem x_app {G : Ctx} {i : Nat} {e : IR} {E E1 : Env} {d : D} {ds : List D} (h0 : ownB E i = true) (h : ev G e E = .ok (.val d) E1) (hi : E1[i]? = some (some (.own ds))) (hl : ds.length < BIG) : ev G (.app i e) E = .ok (.val .non) (E1.set i (some (.own (ds ++ [d])))) := by
  rw [evq_app, if_pos h0, take_okD h]
  show (match E1[i]? with
    | some (some (.own ds)) => if ds.length < BIG then R.ok (Opd.val .non) (E1.set i (some (.own (ds ++ [d])))) else .bad
    | _ => .bad) = _
  rw [hi]
  exact if_pos hl
theorem t_newc {G : Ctx} {i j : Nat} {es : List IR} {E E1 : Env} {f : Fn} {vs ds : List D} {out : List D} {x : Option Cell} (hf : G.frs[j]? = some f) (hn : es.length = f.n) (he : evs G es E = .ok vs E1) (hs : f.sem vs = .ok (.lst ds) out) (hl : ds.length ≤ BIG) (hi : E1[i]? = some x) (hx : frC x = true) : evS G (.new i (.call j es)) E = .nx (E1.set i (some (.own ds))) := by
  rw [evS, evL, hf]
  dsimp only
  rw [if_pos hn, he, R.bind_ok, hs]
  have hfr : freeB E1 i = true := by rw [freeB_eq, hi]; exact hx
  exact if_pos ⟨hl, hfr⟩
theorem x_neg {G : Ctx} {a : IR} {E E1 : Env} {i : Int} (h : ev G a E = .ok (.val (.int i)) E1) : ev G (.neg a) E = .ok (.val (.int (-i))) E1 := by
  rw [evq_neg, h]; rfl
theorem x_vo {G : Ctx} {i : Nat} {E : Env} {ds : List D} (h : E[i]? = some (some (.own ds))) : ev G (.v i) E = .ok (.pl i) E := by
  rw [evq_v]; unfold cellAt; rw [h]; rfl
theorem x_fld {G : Ctx} {a : IR} {f : Str} {E E1 : Env} {C : Str} {ns : List Str} {ds : List D} {z : D} (h : ev G a E = .ok (.val (.obj C ns ds)) E1) (hc : G.cls.contains C = true) (hl : (ns.zip ds).lookup f = some z) : ev G (.fld a f) E = .ok (.val z) E1 := by
  rw [evq_fld, h]
  show (if G.cls.contains C then lift E1 ((ns.zip ds).lookup f) else .bad) = _
  rw [if_pos hc, hl]; rfl
theorem x_isin {G : Ctx} {a : IR} {ts : List Ty} {E E1 : Env} {d : D} (h : ev G a E = .ok (.val d) E1) (hk : knownB G.cls d = true) : ev G (.isin a ts) E = .ok (.val (.bl (ts.any fun t => tyD t d))) E1 := by
  rw [evq_isin, h]
  show (if knownB G.cls d then R.ok (Opd.val (.bl (ts.any fun t => tyD t d))) E1 else .bad) = _
  rw [if_pos hk]
theorem t_expr_exc {G : Ctx} {e : IR} {E E1 : Env} {C f : Str} {d : D} (h : ev G e E = .exc C f d E1) : evS G (.expr e) E = .exc C f d E1 := by
  rw [evS, h]; rfl
theorem l_copyD {G : Ctx} {e : IR} {E E1 : Env} {C : D} {l : List D} (h : ev G e E = .ok (.val C) E1) (hs : seqD C = some l) : evL G (.copy e) E = .ok l E1 := by
  rw [evL, h]
  cases C with
  | lst ds => cases hs; rfl
  | tup ds => cases hs; rfl
  | _ => cases hs
theorem t_newcp {G : Ctx} {i : Nat} {e : IR} {E E1 : Env} {C : D} {l : List D} {x : Option Cell} (h : ev G e E = .ok (.val C) E1) (hs : seqD C = some l) (hl : l.length ≤ BIG) (hi : E1[i]? = some x) (hx : frC x = true) : evS G (.new i (.copy e)) E = .nx (E1.set i (some (.own l))) := by
  rw [evS, l_copyD h hs]
  have hfr : freeB E1 i = true := by rw [freeB_eq, hi]; exact hx
  show (if l.length ≤ BIG ∧ freeB E1 i = true then SR.nx (E1.set i (some (.own l))) else .bad) = _
  rw [if_pos ⟨hl, hfr⟩]
theorem x_makeL {G : Ctx} {j : Nat} {is : List IR} {E E1 : Env} {m : Mkr} {os : List Opd} {ds out : List D} {d : D} (hm : G.mks[j]? = some m) (hn : is.length = m.n) (he : evr G is E = .ok os E1) (hr : os.mapM (rdO E1) = some ds) (hs : m.sem ds = .ok d out) (ho : nolDs out = true) : ev G (.makeL j is) E = .ok (.val (.obj m.C m.ns out)) E1 := by
  rw [ev, hm]
  dsimp only
  rw [if_pos hn, he, R.bind_ok, hr]
  dsimp only
  rw [hs]
  dsimp only
  rw [if_pos ho]
theorem evr1 {G : Ctx} {a : IR} {E E1 : Env} {o : Opd} (h : ev G a E = .ok o E1) : evr G [a] E = .ok [o] E1 := by
  rw [evr, h, R.bind_ok, evr]; rfl
theorem make_exc9 {G : Ctx} {j : Nat} {es : List IR} {env env1 : Env} {m : Mkr} {vs out : List D} {C f : Str} {d : D} (hm : G.mks[j]? = some m) (hn : es.length = m.n) (he : evs G es env = .ok vs env1) (hs : m.sem vs = .exc C f d out) : ev G (.make j es) env = .exc C f d env1 := by
  rw [evq_make, hm]
  dsimp only
  rw [if_pos hn, he, R.bind_ok, hs]
theorem between_neg (hi : Int) : f_is_between.sem [.int (-1), .int 0, .int hi] = .ok (.bl false) [] := rfl
theorem between_bl (hi : Int) : f_is_between.sem [.bl true, .int 0, .int hi] = .ok (.bl false) [] := rfl
theorem between_non (hi : Int) : f_is_between.sem [.non, .int 0, .int hi] = .ok (.bl false) [] := rfl
theorem between_str (hi : Int) (s : Str) : f_is_between.sem [.str s, .int 0, .int hi] = .ok (.bl false) [] := rfl
theorem between_big (n : Nat) (hi : Int) (h : hi < n) : f_is_between.sem [.int (n : Int), .int 0, .int hi] = .ok (.bl false) [] := by
  have c1 : decide ((0 : Int) ≤ (n : Int)) = true := decide_eq_true (by omega)
  have c2 : decide ((n : Int) ≤ hi) = false := decide_eq_false (by omega)
  have q := s_whole n
  show semB g_is_between 3 none b_is_between [.int n, .int 0, .int hi] = _
  unfold semB b_is_between
  simp [evSs, evS, evs, evr, truR, startE, cellsF, cellF, evq_c, evq_v, evq_bin, evq_cmp, evq_chn, evq_and_, evq_or_, evq_not_, evq_neg, evq_ite, evq_tup, evq_lst, evq_ix, evq_blt, evq_isin, Mp.R.bind, Mp.R.take, Mp.R.toS, SR.seq, takeO, rdO, cellAt, content, truD, runF, outE, lift, cl_is_between_0, q, cmpD, c1, c2, h]
theorem Sq.of {C : D} {l : List D} (h : seqD C = some l) : Sq C l := by
  cases C with
  | lst ds => cases h; exact Sq.l _
  | tup ds => cases h; exact Sq.t _
  | _ => cases h
theorem k_ok {n h l e : D} {xs : List D} (h1 : f_need_name_and_place.sem [n, h, .str "home"] = .ok .non []) (h2 : f_is_told_minute.sem [l] = .ok (.bl true) []) (h3 : f_need_errands.sem [e] = .ok .non []) (S : Sq e xs) : k_Person.sem [n, h, l, e] = .ok .non [n, h, l, .tup xs] := by
  unfold k_Person
  dsimp only
  rw [h1]
  dsimp only
  rw [h2]
  dsimp only
  rw [h3]
  dsimp only
  rw [S.sq]
theorem k_x1 {n h l e d : D} {C f : Str} {o : List D} (h1 : f_need_name_and_place.sem [n, h, .str "home"] = .exc C f d o) : k_Person.sem [n, h, l, e] = .exc C f d [] := by
  unfold k_Person
  dsimp only
  rw [h1]
theorem k_x2 {n h l e z : D} {o o2 : List D} (h1 : f_need_name_and_place.sem [n, h, .str "home"] = .ok z o) (h2 : f_is_told_minute.sem [l] = .ok (.bl false) o2) : k_Person.sem [n, h, l, e] = .exc "BadNumber" "number" l [] := by
  unfold k_Person
  dsimp only
  rw [h1]
  dsimp only
  rw [h2]
theorem k_x3 {n h l e d z : D} {C f : Str} {o o2 o3 : List D} (h1 : f_need_name_and_place.sem [n, h, .str "home"] = .ok z o) (h2 : f_is_told_minute.sem [l] = .ok (.bl true) o2) (h3 : f_need_errands.sem [e] = .exc C f d o3) : k_Person.sem [n, h, l, e] = .exc C f d [] := by
  unfold k_Person
  dsimp only
  rw [h1]
  dsimp only
  rw [h2]
  dsimp only
  rw [h3]
/-- what Person(..) is, case by case -/
theorem k_all (n h l e : D) : k_Person.sem [n, h, l, e] = .bad ∨ (∃ C f d o, f_need_name_and_place.sem [n, h, .str "home"] = .exc C f d o ∧ k_Person.sem [n, h, l, e] = .exc C f d []) ∨
    ∃ z o, f_need_name_and_place.sem [n, h, .str "home"] = .ok z o ∧ ((∃ o2, f_is_told_minute.sem [l] = .ok (.bl false) o2 ∧ k_Person.sem [n, h, l, e] = .exc "BadNumber" "number" l []) ∨
      ∃ o2, f_is_told_minute.sem [l] = .ok (.bl true) o2 ∧ ((∃ C f d o3, f_need_errands.sem [e] = .exc C f d o3 ∧ k_Person.sem [n, h, l, e] = .exc C f d []) ∨
        ∃ z3 o3 xs, f_need_errands.sem [e] = .ok z3 o3 ∧ seqD e = some xs ∧ k_Person.sem [n, h, l, e] = .ok .non [n, h, l, .tup xs])) := by
  unfold k_Person
  dsimp only
  cases h1 : f_need_name_and_place.sem [n, h, .str "home"] with
  | bad => exact .inl rfl
  | exc C f d o => exact .inr (.inl ⟨C, f, d, o, rfl, rfl⟩)
  | ok z o =>
    dsimp only
    cases h2 : f_is_told_minute.sem [l] with
    | bad => exact .inl rfl
    | exc _ _ _ _ => exact .inl rfl
    | ok z2 o2 =>
      cases z2 with
      | bl b =>
        cases b with
        | false => exact .inr (.inr ⟨z, o, rfl, .inl ⟨o2, rfl, rfl⟩⟩)
        | true =>
          dsimp only
          cases h3 : f_need_errands.sem [e] with
          | bad => exact .inl rfl
          | exc C f d o3 => exact .inr (.inr ⟨z, o, rfl, .inr ⟨o2, rfl, .inl ⟨C, f, d, o3, rfl, rfl⟩⟩⟩)
          | ok z3 o3 =>
            dsimp only
            cases h4 : seqD e with
            | none => exact .inl rfl
            | some xs => exact .inr (.inr ⟨z, o, rfl, .inr ⟨o2, rfl, .inr ⟨z3, o3, xs, rfl, rfl, rfl⟩⟩⟩)
      | _ => exact .inl rfl
theorem cpi0 {a0 a1 a2 : IR} {env : Env} : ev g_Person___init__ (.call 0 [a0, a1, a2]) env = (evs g_Person___init__ [a0, a1, a2] env).bind fun ds e1 => runF e1 (f_need_name_and_place.sem ds) := ev_call rfl rfl rfl
theorem cpi1 {a0 : IR} {env : Env} : ev g_Person___init__ (.call 1 [a0]) env = (evs g_Person___init__ [a0] env).bind fun ds e1 => runF e1 (f_is_told_minute.sem ds) := ev_call rfl rfl rfl
theorem cpi2 {a0 : IR} {env : Env} : ev g_Person___init__ (.call 2 [a0]) env = (evs g_Person___init__ [a0] env).bind fun ds e1 => runF e1 (f_need_errands.sem ds) := ev_call rfl rfl rfl
theorem init_Person : InitF g_Person___init__ 4 b_Person___init__ t_Person___init__ k_Person.sem := by
  intro v ds
  match ds with
  | [] => exact .inl rfl
  | [_] => exact .inl rfl
  | [_, _] => exact .inl rfl
  | [_, _, _] => exact .inl rfl
  | _ :: _ :: _ :: _ :: _ :: _ => exact .inl rfl
  | [n, h, l, e] =>
    have st : startI 4 v [n, h, l, e] = [some (.dat (.raw v)), some (.dat n), some (.dat h), some (.dat l), some (.dat e)] := rfl
    rcases k_all n h l e with F | ⟨C, f, d, o, h1, F⟩ | ⟨z, o, h1, F⟩
    · exact .inl F
    · refine .inr (.inr ⟨C, f, d, [some (.dat (.raw v)), some (.dat n), some (.dat h), some (.dat l), some (.dat e)], ?_, F⟩)
      rw [st]
      exact ss_exc (t_expr_exc (call_exc cpi0 (evs3 (x_v rfl) (x_v rfl) x_c) h1))
    · have T1 : evS g_Person___init__ (.expr (.call 0 [.v 1, .v 2, .c (.str "home")])) [some (.dat (.raw v)), some (.dat n), some (.dat h), some (.dat l), some (.dat e)] = .nx [some (.dat (.raw v)), some (.dat n), some (.dat h), some (.dat l), some (.dat e)] := t_expr (call_ok cpi0 (evs3 (x_v rfl) (x_v rfl) x_c) h1)
      rcases F with ⟨o2, h2, F⟩ | ⟨o2, h2, F⟩
      · have L2 : ev g_Person___init__ (.call 1 [.v 3]) [some (.dat (.raw v)), some (.dat n), some (.dat h), some (.dat l), some (.dat e)] = .ok (.val (.bl false)) [some (.dat (.raw v)), some (.dat n), some (.dat h), some (.dat l), some (.dat e)] := call_ok cpi1 (evs1 (x_v rfl)) h2
        refine .inr (.inr ⟨_, _, _, [some (.dat (.raw v)), some (.dat n), some (.dat h), some (.dat l), some (.dat e)], ?_, F⟩)
        rw [st]
        exact (ss_nx T1).trans (ss_exc ((t_if_t (x_notb L2) rfl).trans (ss_exc (t_raise (x_v rfl)))))
      · have L2 : ev g_Person___init__ (.call 1 [.v 3]) [some (.dat (.raw v)), some (.dat n), some (.dat h), some (.dat l), some (.dat e)] = .ok (.val (.bl true)) [some (.dat (.raw v)), some (.dat n), some (.dat h), some (.dat l), some (.dat e)] := call_ok cpi1 (evs1 (x_v rfl)) h2
        have T2 := t_if_f0 (A := [.raise "BadNumber" "number" (.v 3)]) (x_notb L2)
        rcases F with ⟨C, f, d, o3, h3, F⟩ | ⟨z3, o3, xs, h3, h4, F⟩
        · refine .inr (.inr ⟨C, f, d, [some (.dat (.raw v)), some (.dat n), some (.dat h), some (.dat l), some (.dat e)], ?_, F⟩)
          rw [st]
          exact (ss_nx T1).trans ((ss_nx T2).trans (ss_exc (t_expr_exc (call_exc cpi2 (evs1 (x_v rfl)) h3))))
        · refine .inr (.inl ⟨[some (.dat (.raw v)), some (.dat n), some (.dat h), some (.dat l), some (.dat e)], [n, h, l, .tup xs], [some (.dat (.raw v)), some (.dat n), some (.dat h), some (.dat l), some (.dat e)], ?_, rfl, ?_, F⟩)
          · rw [st]
            exact (ss_nx T1).trans ((ss_nx T2).trans ((ss_nx (t_expr (call_ok cpi2 (evs1 (x_v rfl)) h3))).trans ss0))
          · exact evs_cons (x_v rfl) (evs3 (x_v rfl) (x_v rfl) (x_blt1 (x_v rfl) (Sq.of h4).tp))
theorem cP : (["Person"] : List Str).contains "Person" = true := by kernel_rfl
theorem nc_leave : (["name", "home", "leaves", "errands"] : List Str).contains "leaving_at" = false := by kernel_rfl
theorem nc_with : (["name", "home", "leaves", "errands"] : List Str).contains "with_errand" = false := by kernel_rfl
theorem nc_keys : (["name", "home", "leaves", "errands"] : List Str).contains "own_keys" = false := by kernel_rfl
def dP (n h l : D) (xs : List D) : D := .obj "Person" ["name", "home", "leaves", "errands"] [n, h, l, .tup xs]
section
variable {G : Ctx} {i : Nat} {E : Env} {n h l : D} {xs : List D}
theorem fp1 (hc : G.cls.contains "Person" = true) (hi : E[i]? = some (some (.dat (dP n h l xs)))) : ev G (.fld (.v i) "name") E = .ok (.val n) E := x_fld (C := "Person") (ns := ["name", "home", "leaves", "errands"]) (ds := [n, h, l, .tup xs]) (x_v hi) hc rfl
theorem fp2 (hc : G.cls.contains "Person" = true) (hi : E[i]? = some (some (.dat (dP n h l xs)))) : ev G (.fld (.v i) "home") E = .ok (.val h) E := x_fld (C := "Person") (ns := ["name", "home", "leaves", "errands"]) (ds := [n, h, l, .tup xs]) (x_v hi) hc rfl
theorem fp3 (hc : G.cls.contains "Person" = true) (hi : E[i]? = some (some (.dat (dP n h l xs)))) : ev G (.fld (.v i) "leaves") E = .ok (.val l) E := x_fld (C := "Person") (ns := ["name", "home", "leaves", "errands"]) (ds := [n, h, l, .tup xs]) (x_v hi) hc rfl
theorem fp4 (hc : G.cls.contains "Person" = true) (hi : E[i]? = some (some (.dat (dP n h l xs)))) : ev G (.fld (.v i) "errands") E = .ok (.val (.tup xs)) E := x_fld (C := "Person") (ns := ["name", "home", "leaves", "errands"]) (ds := [n, h, l, .tup xs]) (x_v hi) hc rfl
end
theorem x_and_b {G : Ctx} {a b : IR} {E : Env} {x y : Bool} (h : ev G a E = .ok (.val (.bl x)) E) (h2 : ev G b E = .ok (.val (.bl y)) E) : ev G (.and_ a b) E = .ok (.val (.bl (x && y))) E := by
  cases x with
  | true => exact (x_and_t h rfl).trans h2
  | false => exact x_and_f h rfl
theorem cmp_eqd {d c : D} (h1 : dataD 20 d = true) (h2 : dataD 20 c = true) : cmpD .eq d c = some (eqD d c) := by
  show (if dataD 20 d && dataD 20 c then some (eqD d c) else none) = _
  rw [h1, h2]; rfl
theorem data_tup {xs : List D} (h : ∀ x, x ∈ xs → dataD 19 x = true) : dataD 20 (.tup xs) = true := dataD_tup h
theorem m_eqP {n h l n' h' l' : D} {xs ys : List D} (d1 : dataD 20 n = true) (d2 : dataD 20 h = true) (d3 : dataD 20 l = true) (d4 : ∀ x, x ∈ xs → dataD 19 x = true) (e1 : dataD 20 n' = true) (e2 : dataD 20 h' = true) (e3 : dataD 20 l' = true) (e4 : ∀ x, x ∈ ys → dataD 19 x = true) :
    m_Person___eq__.sem [dP n h l xs, dP n' h' l' ys] = .ok (.bl (eqD n n' && (eqD h h' && (eqD l l' && eqDs xs ys)))) [] := by
  have q : eqD (.tup xs) (.tup ys) = eqDs xs ys := by rw [eqD]
  have q4 := cmp_eqd (data_tup d4) (data_tup e4)
  rw [q] at q4
  show semB g_Person___eq__ 2 none b_Person___eq__ [dP n h l xs, dP n' h' l' ys] = _
  refine sem_rt (e := [some (.dat (dP n h l xs)), some (.dat (dP n' h' l' ys))]) ?_
  exact ss_rt (t_ret ((x_and_t (x_isin (x_v rfl) rfl) rfl).trans (x_and_b (x_cmp (fp1 cP rfl) (fp1 cP rfl) (cmp_eqd d1 e1)) (x_and_b (x_cmp (fp2 cP rfl) (fp2 cP rfl) (cmp_eqd d2 e2)) (x_and_b (x_cmp (fp3 cP rfl) (fp3 cP rfl) (cmp_eqd d3 e3)) (x_cmp (fp4 cP rfl) (fp4 cP rfl) q4))))))
theorem m_eqL {n h l : D} {xs ys : List D} : m_Person___eq__.sem [dP n h l xs, .lst ys] = .ok (.bl false) [] := by
  show semB g_Person___eq__ 2 none b_Person___eq__ [dP n h l xs, .lst ys] = _
  refine sem_rt (e := [some (.dat (dP n h l xs)), some (.dat (.lst ys))]) ?_
  exact ss_rt (t_ret (x_and_f (x_isin (d := .lst ys) (x_v rfl) rfl) rfl))
theorem m_leave {n h l m : D} {xs : List D} (k : k_Person.sem [n, h, m, .tup xs] = .ok .non [n, h, m, .tup xs]) : m_Person_leaving_at.sem [dP n h l xs, m] = .ok (dP n h m xs) [] := by
  show semB g_Person_leaving_at 2 none b_Person_leaving_at [dP n h l xs, m] = _
  refine sem_rt (e := [some (.dat (dP n h l xs)), some (.dat m)]) ?_
  exact ss_rt (t_ret (make_ok (m := k_Person) rfl rfl (evs_cons (fp1 cP rfl) (evs3 (fp2 cP rfl) (x_v rfl) (fp4 cP rfl))) k))
theorem ss_rexc {G : Ctx} {e : IR} {ss : List ST} {E E1 : Env} {C f : Str} {d : D} (h : ev G e E = .exc C f d E1) : evSs G (.ret e :: ss) E = .exc C f d E1 := by
  rw [evSs, evS, h]; rfl
theorem m_leave_x {n h l m d : D} {xs : List D} {C f : Str} (k : k_Person.sem [n, h, m, .tup xs] = .exc C f d []) : m_Person_leaving_at.sem [dP n h l xs, m] = .exc C f d [] := by
  show semB g_Person_leaving_at 2 none b_Person_leaving_at [dP n h l xs, m] = _
  refine sem_exc (e := [some (.dat (dP n h l xs)), some (.dat m)]) ?_
  exact ss_rexc (make_exc9 (m := k_Person) rfl rfl (evs_cons (fp1 cP rfl) (evs3 (fp2 cP rfl) (x_v rfl) (fp4 cP rfl))) k)
theorem x_sq {G : Ctx} {a : IR} {E E1 : Env} {l : List D} (h : ev G a E = .ok (.val (.tup l)) E1) : ev G (.sq a) E = .ok (.val (.tup l)) E1 := by
  rw [ev, h]; rfl
def putE (xs : List D) (p : Nat) (v : D) : List D := xs.take p ++ ([v] ++ xs.drop (p + 1))
theorem sub1 {len : Nat} (h : 0 < len) : binD .sub (.int (len : Int)) (.int 1) = some (.int ((len - 1 : Nat) : Int)) := by
  show some (D.int ((len : Int) - 1)) = _
  congr 2
  omega
theorem between_in {p len : Nat} (h : p < len) : f_is_between.sem [.int (p : Int), .int 0, .int ((len - 1 : Nat) : Int)] = .ok (.bl true) [] := s_between p 0 (len - 1) (Nat.zero_le _) (by omega)
section
variable {n h l v : D} {xs : List D} {p : Nat}
theorem we_head (hp : p < xs.length) : evS g_Person_with_errand (.if_ (.not_ (.call 0 [.v 1, .c (.int 0), .bin .sub (.blt .len [.fld (.v 0) "errands"]) (.c (.int 1))])) [.raise "BadIndex" "index" (.v 1)] []) [some (.dat (dP n h l xs)), some (.dat (.int p)), some (.dat v), none] = .nx [some (.dat (dP n h l xs)), some (.dat (.int p)), some (.dat v), none] :=
  t_if_f0 (x_notb (b := true) (call_ok cl_Person_with_errand_0 (evs3 (x_v rfl) x_c (x_bin (x_blt1 (fp4 cP rfl) (Sq.t xs).ln) x_c (sub1 (by omega)))) (between_in hp)))
theorem we_lst (hl : xs.length ≤ 5) : evS g_Person_with_errand (.asg (.name 3) (.lstS [true, false, true] [.sq (.sl (.fld (.v 0) "errands") none (some (.v 1))), .v 2, .sq (.sl (.fld (.v 0) "errands") (some (.bin .add (.v 1) (.c (.int 1)))) none)])) [some (.dat (dP n h l xs)), some (.dat (.int p)), some (.dat v), none] = .nx [some (.dat (dP n h l xs)), some (.dat (.int p)), some (.dat v), some (.dat (.lst (putE xs p v)))] := by
  have hB : BIG = 100000 := rfl
  have s1 : slD (.tup xs) none (some (p : Int)) = some (.tup (xs.take p)) := by show some (D.tup (cutD xs none (some (p : Int)))) = _; rw [cut_to]
  have s2 : slD (.tup xs) (some ((p : Int) + 1)) none = some (.tup (xs.drop (p + 1))) := by
    show some (D.tup (cutD xs (some ((p + 1 : Nat) : Int)) none)) = _
    rw [cut_from]
  have A : evs g_Person_with_errand [.sq (.sl (.fld (.v 0) "errands") none (some (.v 1))), .v 2, .sq (.sl (.fld (.v 0) "errands") (some (.bin .add (.v 1) (.c (.int 1)))) none)] [some (.dat (dP n h l xs)), some (.dat (.int p)), some (.dat v), none] = .ok [.tup (xs.take p), v, .tup (xs.drop (p + 1))] [some (.dat (dP n h l xs)), some (.dat (.int p)), some (.dat v), none] :=
    evs3 (x_sq (x_slto (fp4 cP rfl) (x_v rfl) s1)) (x_v rfl) (x_sq (x_slfrom (fp4 cP rfl) (x_bin (x_v rfl) x_c (show binD .add (.int (p : Int)) (.int 1) = some (.int ((p : Int) + 1)) from rfl)) s2))
  have SD : starD [true, false, true] [.tup (xs.take p), v, .tup (xs.drop (p + 1))] = some (putE xs p v) := by
    show some (xs.take p ++ (v :: (xs.drop (p + 1) ++ []))) = _
    rw [List.append_nil]; rfl
  have hz : (putE xs p v).length ≤ BIG := by
    unfold putE
    simp
    omega
  have V : ev g_Person_with_errand (.lstS [true, false, true] [.sq (.sl (.fld (.v 0) "errands") none (some (.v 1))), .v 2, .sq (.sl (.fld (.v 0) "errands") (some (.bin .add (.v 1) (.c (.int 1)))) none)]) [some (.dat (dP n h l xs)), some (.dat (.int p)), some (.dat v), none] = .ok (.val (.lst (putE xs p v))) [some (.dat (dP n h l xs)), some (.dat (.int p)), some (.dat v), none] := by
    rw [evq_lstS, A, R.bind_ok, SD]
    dsimp only
    rw [if_pos hz]
  exact t_asg V (bind_nm (x := none) rfl rfl)
theorem m_with (hp : p < xs.length) (hl : xs.length ≤ 5) (k : k_Person.sem [n, h, l, .lst (putE xs p v)] = .ok .non [n, h, l, .tup (putE xs p v)]) : m_Person_with_errand.sem [dP n h l xs, .int p, v] = .ok (dP n h l (putE xs p v)) [] := by
  show semB g_Person_with_errand 4 none b_Person_with_errand [dP n h l xs, .int p, v] = _
  refine sem_rt (e := [some (.dat (dP n h l xs)), some (.dat (.int p)), some (.dat v), some (.dat (.lst (putE xs p v)))]) ?_
  exact (ss_nx (we_head hp)).trans ((ss_nx (we_lst hl)).trans (ss_rt (t_ret (make_ok (m := k_Person) rfl rfl (evs_cons (fp1 cP rfl) (evs3 (fp2 cP rfl) (fp3 cP rfl) (x_v rfl))) k))))
theorem m_with_x {C f : Str} {d : D} (hp : p < xs.length) (hl : xs.length ≤ 5) (k : k_Person.sem [n, h, l, .lst (putE xs p v)] = .exc C f d []) : m_Person_with_errand.sem [dP n h l xs, .int p, v] = .exc C f d [] := by
  show semB g_Person_with_errand 4 none b_Person_with_errand [dP n h l xs, .int p, v] = _
  refine sem_exc (e := [some (.dat (dP n h l xs)), some (.dat (.int p)), some (.dat v), some (.dat (.lst (putE xs p v)))]) ?_
  exact (ss_nx (we_head hp)).trans ((ss_nx (we_lst hl)).trans (ss_rexc (make_exc9 (m := k_Person) rfl rfl (evs_cons (fp1 cP rfl) (evs3 (fp2 cP rfl) (fp3 cP rfl) (x_v rfl))) k)))
theorem m_with_odd {z : D} (q : f_is_between.sem [z, .int 0, .int ((xs.length : Int) - 1)] = .ok (.bl false) []) : m_Person_with_errand.sem [dP n h l xs, z, v] = .exc "BadIndex" "index" z [] := by
  show semB g_Person_with_errand 4 none b_Person_with_errand [dP n h l xs, z, v] = _
  refine sem_exc (e := [some (.dat (dP n h l xs)), some (.dat z), some (.dat v), none]) ?_
  exact ss_exc ((t_if_t (x_notb (b := false) (call_ok cl_Person_with_errand_0 (evs3 (x_v rfl) x_c (x_bin (x_blt1 (fp4 cP rfl) (Sq.t xs).ln) x_c (show binD .sub (.int (xs.length : Int)) (.int 1) = some (.int ((xs.length : Int) - 1)) from rfl))) q)) rfl).trans (ss_exc (t_raise (x_v rfl))))
end
end Mp
set_option maxHeartbeats 4000000
namespace Mp
open PySem L2
variable [TabsW] [GdW]
def Good (xs : List D) : Prop := (∀ x, x ∈ xs → x ∈ goodEs) ∧ (xs.filter isMt).length ≤ 1
theorem chk_of {x : D} (h : x ∈ goodEs) : chkE x = true := List.all_eq_true.mp chk_all x h
theorem good_parts {x : D} (h : x ∈ goodEs) : dataD 18 x = true ∧ dataD 19 x = true ∧ nolD x = true := by
  have q := chk_of h
  unfold chkE at q
  rw [Bool.and_eq_true, Bool.and_eq_true, Bool.and_eq_true] at q
  exact q.2
theorem data_18 {x : D} (h : x ∈ goodEs) : dataD 18 x = true := (good_parts h).1
theorem good_data {x : D} (h : x ∈ goodEs) : dataD 19 x = true := (good_parts h).2.1
theorem good_nol {x : D} (h : x ∈ goodEs) : nolD x = true := (good_parts h).2.2
theorem good_er {x : D} (h : x ∈ goodEs) : x = .non ∨ Er x := by
  have q := chk_of h
  unfold chkE at q
  rw [Bool.and_eq_true, Bool.or_eq_true] at q
  rcases q.1 with n | n
  · left
    cases x <;> first | rfl | cases n
  · rw [Bool.and_eq_true] at n
    obtain ⟨n1, n2⟩ := n
    by_cases hx : x = .non
    · exact .inl hx
    · right
      refine ⟨okE_of n1, hx, ?_⟩
      cases h1 : ixD x (.int 0) with
      | none => rw [h1] at n2; cases n2
      | some f =>
        rw [h1] at n2
        dsimp only at n2
        refine ⟨f, rfl, ?_⟩
        cases h2 : cmpD .eq f (.str "meet") with
        | none => rw [h2] at n2; cases n2
        | some b =>
          rw [h2] at n2
          rw [eq_of_beq n2]
theorem mt_pair {x y : D} (hx : x ∈ goodEs) (hy : y ∈ goodEs) (m : isMt x = true) (e : eqD y x = true) : isMt y = true := by
  have q := List.all_eq_true.mp (List.all_eq_true.mp mt_all y hy) x hx
  rw [m, e] at q
  simpa using q
theorem two_mt : ∀ {xs : List D} {i j : Nat} {x y : D}, i < j → xs[i]? = some y → xs[j]? = some x → isMt y = true → isMt x = true → 2 ≤ (xs.filter isMt).length
  | [], i, j, x, y, _, h, _, _, _ => by simp at h
  | a :: xs, 0, j + 1, x, y, _, h1, h2, m1, m2 => by
    have e : a = y := by simpa using h1
    subst e
    rw [List.filter_cons_of_pos m1, List.length_cons]
    have : x ∈ xs.filter isMt := List.mem_filter.mpr ⟨List.mem_of_getElem? (by simpa using h2), m2⟩
    have := List.length_pos_of_mem this
    omega
  | a :: xs, i + 1, j + 1, x, y, hij, h1, h2, m1, m2 => by
    have q := two_mt (xs := xs) (i := i) (j := j) (by omega) (by simpa using h1) (by simpa using h2) m1 m2
    have : (xs.filter isMt).length ≤ ((a :: xs).filter isMt).length := by
      rw [List.filter_cons]
      split
      · simp
      · exact Nat.le_refl _
    omega
/-- good ones ahead of something else pass -/
theorem pass_pre {xs ys : List D} (g : Good xs) {j : Nat} {x : D} (h : xs[j]? = some x) (e : ys.take j = xs.take j) : PassAt ys j x := by
  have hx := g.1 x (List.mem_of_getElem? h)
  rcases good_er hx with n | E
  · exact .inl n
  · refine .inr ⟨E, fun m => ?_⟩
    rw [e, List.any_eq_false]
    intro y hy z
    obtain ⟨i, hi⟩ := List.getElem?_of_mem hy
    have hij : i < j := by
      have := (List.getElem?_eq_some_iff.mp hi).1
      rw [List.length_take] at this
      omega
    rw [List.getElem?_take_of_lt hij] at hi
    have hyx := g.1 y (List.mem_of_getElem? hi)
    have my := mt_pair hx hyx m (by simpa using z)
    have := two_mt hij hi h my m
    have := g.2
    omega
theorem pass_all {xs : List D} (g : Good xs) : ∀ j x, xs[j]? = some x → PassAt xs j x := fun j x h => pass_pre g h rfl
theorem data_all {xs : List D} (g : Good xs) : ∀ x, x ∈ xs → dataD 19 x = true := fun x h => good_data (g.1 x h)
theorem put_good {xs : List D} (g : Good xs) {p : Nat} {v : D} (hp : p < xs.length) (hv : v ∈ goodEs) (hm : isMt v = false) : Good (putE xs p v) := by
  refine ⟨fun x hx => ?_, ?_⟩
  · unfold putE at hx
    rcases List.mem_append.mp hx with h | h
    · exact g.1 x (List.mem_of_mem_take h)
    · rcases List.mem_append.mp h with h | h
      · rw [List.mem_singleton.mp h]; exact hv
      · exact g.1 x (List.mem_of_mem_drop h)
  · unfold putE
    rw [List.filter_append, List.filter_append, List.filter_cons_of_neg (by rw [hm]; decide), List.filter_nil, List.nil_append, List.length_append]
    have h1 : xs.filter isMt = (xs.take p).filter isMt ++ (xs.drop p).filter isMt := by rw [← List.filter_append, List.take_append_drop]
    have h2 : ((xs.drop (p + 1)).filter isMt).length ≤ ((xs.drop p).filter isMt).length := by
      have : xs.drop (p + 1) = (xs.drop p).drop 1 := by rw [List.drop_drop]
      rw [this]
      exact (List.Sublist.filter isMt (List.drop_sublist 1 (xs.drop p))).length_le
    have h3 := g.2
    rw [h1, List.length_append] at h3
    omega
theorem put_len {xs : List D} {p : Nat} {v : D} (hp : p < xs.length) : (putE xs p v).length = xs.length := by
  unfold putE
  simp
  omega
theorem put_at {xs : List D} {p : Nat} {v : D} (hp : p < xs.length) : (putE xs p v)[p]? = some v := by
  unfold putE
  rw [List.getElem?_append_right (by rw [List.length_take]; omega), List.length_take, Nat.min_eq_left (by omega), Nat.sub_self]; rfl
theorem put_pre {xs : List D} {p j : Nat} {v : D} (hp : p < xs.length) (hj : j < p) : (putE xs p v)[j]? = xs[j]? := by
  unfold putE
  rw [List.getElem?_append_left (by rw [List.length_take]; omega), List.getElem?_take_of_lt hj]
theorem put_take {xs : List D} {p j : Nat} {v : D} (hp : p < xs.length) (hj : j ≤ p) : (putE xs p v).take j = xs.take j := by
  unfold putE
  rw [List.take_append_of_le_length (by rw [List.length_take]; omega), List.take_take, Nat.min_eq_left hj]
theorem x_cmp_plr {G : Ctx} {op : COp} {a b : IR} {i : Nat} {E E1 E2 : Env} {c : Cell} {x : D} {z : Bool} (h : ev G a E = .ok (.val x) E1) (h2 : ev G b E1 = .ok (.pl i) E2) (hc : cellAt E2 i = some c) (h3 : cmpD op x (content c) = some z) : ev G (.cmp op a b) E = .ok (.val (.bl z)) E2 := by
  rw [evq_cmp, h]
  show ((ev G b E1).bind fun y e2 => match rdO e2 (.val x), rdO e2 y with
    | some p, some q => lift e2 ((cmpD op p q).map .bl)
    | _, _ => .bad) = _
  rw [h2]
  show (match rdO E2 (.val x), rdO E2 (.pl i) with
    | some p, some q => lift E2 ((cmpD op p q).map .bl)
    | _, _ => .bad) = _
  rw [show rdO E2 (.pl i) = some (content c) from by show (cellAt E2 i).map content = _; rw [hc]; rfl]
  show lift E2 ((cmpD op x (content c)).map .bl) = _
  rw [h3]; rfl
def kindsS : List Str := ["stay", "counter", "room"]
def placesS : List Str := ["a", "bank", "abcdefgh"]
def timesI : List Int := [0, 1, 60, 600]
theorem drawn_mem {k p : Str} {m : Int} (hk : k ∈ kindsS) (hp : p ∈ placesS) (hm : m ∈ timesI) : D.tup [.str k, .str p, .int m] ∈ drawnEs :=
  List.mem_append_right _ (List.mem_flatMap.mpr ⟨k, hk, List.mem_flatMap.mpr ⟨p, hp, List.mem_map.mpr ⟨m, hm, rfl⟩⟩⟩)
theorem drawn_good {x : D} (h : x ∈ drawnEs) : x ∈ goodEs := List.mem_append_left _ h
def bDr : List ST := [.asg (.name 4) (.call 1 [.v 0, .lst [.c (.str "stay"), .c (.str "counter"), .c (.str "room"), .c (.str "meet"), .c (.str "none")]]), .if_ (.and_ (.cmp .eq (.v 4) (.c (.str "meet"))) (.cmp .notin (.v 4) (.v 3))) [.expr (.app 3 (.v 4)), .expr (.app 2 (.tup [.c (.str "meet"), .call 1 [.v 0, .lst [.c (.str "talk"), .c (.str "vote")]]]))] [.if_ (.cmp .in_ (.v 4) (.lst [.c (.str "none"), .c (.str "meet")])) [.expr (.app 2 (.c .non))] [.expr (.app 2 (.tup [.v 4, .call 1 [.v 0, .lst [.c (.str "a"), .c (.str "bank"), .c (.str "abcdefgh")]], .call 1 [.v 0, .lst [.c (.int 0), .c (.int 1), .c (.int 60), .c (.int 600)]]]))]]]
def envD (S xs ms : List D) (x1 x4 : Option Cell) : Env := [some (.io S), x1, some (.own xs), some (.own ms), x4]
structure InvD (xs ms : List D) : Prop where
  mem : ∀ x, x ∈ xs → x ∈ drawnEs
  one : (xs.filter isMt).length = ms.length
  ms : ms = [] ∨ ms = [.str "meet"]
theorem InvD.add {xs ms : List D} (I : InvD xs ms) {x : D} (hx : x ∈ drawnEs) (hm : isMt x = false) : InvD (xs ++ [x]) ms := by
  refine ⟨fun y hy => ?_, ?_, I.ms⟩
  · rcases List.mem_append.mp hy with h | h
    · exact I.mem y h
    · rw [List.mem_singleton.mp h]; exact hx
  · rw [List.filter_append, List.filter_cons_of_neg (by rw [hm]; decide), List.filter_nil, List.append_nil]; exact I.one
theorem InvD.meet {xs : List D} (I : InvD xs []) {x : D} (hx : x ∈ drawnEs) (hm : isMt x = true) : InvD (xs ++ [x]) [.str "meet"] := by
  refine ⟨fun y hy => ?_, ?_, .inr rfl⟩
  · rcases List.mem_append.mp hy with h | h
    · exact I.mem y h
    · rw [List.mem_singleton.mp h]; exact hx
  · rw [List.filter_append, List.filter_cons_of_pos hm, List.filter_nil, List.length_append, I.one]; rfl
theorem b5 : 5 ≤ BIG := by decide
theorem b4 : 4 ≤ BIG := by decide
theorem b3 : 3 ≤ BIG := by decide
theorem b2 : 2 ≤ BIG := by decide
theorem dr_turn (a b : Int) (xs ms : List D) (I : InvD xs ms) (hl : xs.length < 100) (x1 x4 : Option Cell) (h4 : frC x4 = true) : ∃ (a' b' : Int) (x : D) (ms' : List D) (y4 : Option Cell), InvD (xs ++ [x]) ms' ∧ frC y4 = true ∧
    evSs g__law_drawn_errands bDr (envD (src a b) xs ms x1 x4) = .nx (envD (src a' b') (xs ++ [x]) ms' x1 y4) := by
  have hB : BIG = 100000 := rfl
  obtain ⟨d, a1, b1, hd, c1⟩ := s_one a b [.str "stay", .str "counter", .str "room", .str "meet", .str "none"] (by simp) (by simp)
  have T1 : evS g__law_drawn_errands (.asg (.name 4) (.call 1 [.v 0, .lst [.c (.str "stay"), .c (.str "counter"), .c (.str "room"), .c (.str "meet"), .c (.str "none")]])) (envD (src a b) xs ms x1 x4) = .nx (envD (src a1 b1) xs ms x1 (some (.dat d))) :=
    t_asg (io_call (env := envD (src a b) xs ms x1 x4) rfl rfl rfl rfl (evs1 (x_lst (evs_cons x_c (evs_cons x_c (evs3 x_c x_c x_c))) b5)) rfl c1) (bind_nm (x := x4) rfl h4)
  have ap {E : Env} {e : IR} {x : D} (E1 : Env) (h0 : ownB E 2 = true) (h : ev g__law_drawn_errands e E = .ok (.val x) E1) (hi : E1[2]? = some (some (.own xs))) : evS g__law_drawn_errands (.expr (.app 2 e)) E = .nx (E1.set 2 (some (.own (xs ++ [x])))) := t_expr (x_app h0 h hi (by omega))
  -- a kind that is no meeting
  have other : ∀ k : Str, k ∈ kindsS → d = .str k → ∃ (a' b' : Int) (x : D) (ms' : List D) (y4 : Option Cell), InvD (xs ++ [x]) ms' ∧ frC y4 = true ∧ evSs g__law_drawn_errands bDr (envD (src a b) xs ms x1 x4) = .nx (envD (src a' b') (xs ++ [x]) ms' x1 y4) := by
    intro k hk e
    subst e
    obtain ⟨p, a2, b2', hp, c2⟩ := s_one a1 b1 (placesS.map D.str) (by simp [placesS]) (by simp [placesS])
    obtain ⟨p, hp', rfl⟩ := List.mem_map.mp hp
    obtain ⟨m, a3, b3', hm, c3⟩ := s_one a2 b2' (timesI.map D.int) (by simp [timesI]) (by simp [timesI])
    obtain ⟨m, hm', rfl⟩ := List.mem_map.mp hm
    have q1 : cmpD .eq (.str k) (.str "meet") = some false ∧ cmpD .in_ (.str k) (.lst [.str "none", .str "meet"]) = some false ∧ isMt (.tup [.str k, .str p, .int m]) = false := by
      simp only [kindsS, List.mem_cons, List.not_mem_nil, or_false] at hk
      rcases hk with rfl | rfl | rfl <;> exact ⟨by kernel_rfl, by kernel_rfl, by kernel_rfl⟩
    refine ⟨a3, b3', .tup [.str k, .str p, .int m], ms, some (.dat (.str k)), I.add (drawn_mem hk hp' hm') q1.2.2, rfl, (ss_nx T1).trans ((ss_nx ?_).trans ss0)⟩
    refine (t_if_f (x_and_f (x_cmp (x_v rfl) x_c q1.1) rfl) rfl).trans ((ss_nx ?_).trans ss0)
    refine (t_if_f (x_cmp (x_v rfl) (x_lst (evs2 x_c x_c) b2) q1.2.1) rfl).trans ((ss_nx ?_).trans ss0)
    exact ap (envD (src a3 b3') xs ms x1 (some (.dat (.str k)))) rfl (x_tup (evs3 (x_v rfl) (io_call (env := envD (src a1 b1) xs ms x1 (some (.dat (.str k)))) rfl rfl rfl rfl (evs1 (x_lst (evs3 x_c x_c x_c) b3)) rfl c2) (io_call (env := envD (src a2 b2') xs ms x1 (some (.dat (.str k)))) rfl rfl rfl rfl (evs1 (x_lst (evs_cons x_c (evs3 x_c x_c x_c)) b4)) rfl c3)) b3) rfl
  have nonM : D.non ∈ drawnEs := List.mem_append_left _ (by simp)
  simp only [List.mem_cons, List.not_mem_nil, or_false] at hd
  rcases hd with e | e | e | e | e
  · exact other "stay" (by simp [kindsS]) e
  · exact other "counter" (by simp [kindsS]) e
  · exact other "room" (by simp [kindsS]) e
  · subst e
    have M : ev g__law_drawn_errands (.cmp .eq (.v 4) (.c (.str "meet"))) (envD (src a1 b1) xs ms x1 (some (.dat (.str "meet")))) = .ok (.val (.bl true)) (envD (src a1 b1) xs ms x1 (some (.dat (.str "meet")))) := x_cmp (x_v rfl) x_c (by kernel_rfl)
    rcases I.ms with e | e
    · subst e
      obtain ⟨w, a2, b2', hw, c2⟩ := s_one a1 b1 [.str "talk", .str "vote"] (by simp) (by simp)
      have mem : D.tup [.str "meet", w] ∈ drawnEs ∧ isMt (.tup [.str "meet", w]) = true := by
        simp only [List.mem_cons, List.not_mem_nil, or_false] at hw
        rcases hw with rfl | rfl
        · exact ⟨List.mem_append_left _ (by simp), by kernel_rfl⟩
        · exact ⟨List.mem_append_left _ (by simp), by kernel_rfl⟩
      refine ⟨a2, b2', .tup [.str "meet", w], [.str "meet"], some (.dat (.str "meet")), I.meet mem.1 mem.2, rfl, (ss_nx T1).trans ((ss_nx ?_).trans ss0)⟩
      refine (t_if_t ((x_and_t M rfl).trans (x_cmp_plr (c := .own []) (x_v rfl) (x_vo rfl) rfl (show cmpD .notin (.str "meet") (.lst []) = some true by kernel_rfl))) rfl).trans ?_
      refine (ss_nx (t_expr (x_app (i := 3) rfl (x_v rfl) rfl (show ([] : List D).length < BIG by decide)))).trans ((ss_nx ?_).trans ss0)
      exact ap (envD (src a2 b2') xs [.str "meet"] x1 (some (.dat (.str "meet")))) rfl (x_tup (evs2 x_c (io_call (env := envD (src a1 b1) xs [.str "meet"] x1 (some (.dat (.str "meet")))) rfl rfl rfl rfl (evs1 (x_lst (evs2 x_c x_c) b2)) rfl c2)) b2) rfl
    · subst e
      refine ⟨a1, b1, .non, [.str "meet"], some (.dat (.str "meet")), I.add nonM rfl, rfl, (ss_nx T1).trans ((ss_nx ?_).trans ss0)⟩
      refine (t_if_f ((x_and_t M rfl).trans (x_cmp_plr (c := .own [.str "meet"]) (x_v rfl) (x_vo rfl) rfl (show cmpD .notin (.str "meet") (.lst [.str "meet"]) = some false by kernel_rfl))) rfl).trans ((ss_nx ?_).trans ss0)
      refine (t_if_t (x_cmp (x_v rfl) (x_lst (evs2 x_c x_c) b2) (show cmpD .in_ (.str "meet") (.lst [.str "none", .str "meet"]) = some true by kernel_rfl)) rfl).trans ((ss_nx ?_).trans ss0)
      exact ap (envD (src a1 b1) xs [.str "meet"] x1 (some (.dat (.str "meet")))) rfl x_c rfl
  · subst e
    refine ⟨a1, b1, .non, ms, some (.dat (.str "none")), I.add nonM rfl, rfl, (ss_nx T1).trans ((ss_nx ?_).trans ss0)⟩
    refine (t_if_f (x_and_f (x_cmp (x_v rfl) x_c (show cmpD .eq (.str "none") (.str "meet") = some false by kernel_rfl)) rfl) rfl).trans ((ss_nx ?_).trans ss0)
    refine (t_if_t (x_cmp (x_v rfl) (x_lst (evs2 x_c x_c) b2) (show cmpD .in_ (.str "none") (.lst [.str "none", .str "meet"]) = some true by kernel_rfl)) rfl).trans ((ss_nx ?_).trans ss0)
    exact ap (envD (src a1 b1) xs ms x1 (some (.dat (.str "none")))) rfl x_c rfl
theorem dr_loop : ∀ (ks : List D) (a b : Int) (xs ms : List D) (x1 x4 : Option Cell), InvD xs ms → xs.length + ks.length < 100 → frC x1 = true → frC x4 = true → ∃ (a' b' : Int) (ys ms' : List D) (y1 y4 : Option Cell), InvD ys ms' ∧ ys.length = xs.length + ks.length ∧
    forL (.name 1) (fun e => evSs g__law_drawn_errands bDr e) ks (envD (src a b) xs ms x1 x4) = .nx (envD (src a' b') ys ms' y1 y4)
  | [], a, b, xs, ms, x1, x4, I, _, _, _ => ⟨a, b, xs, ms, x1, x4, I, rfl, rfl⟩
  | k :: ks, a, b, xs, ms, x1, x4, I, hl, h1, h4 => by
    rw [List.length_cons] at hl
    obtain ⟨a1, b1, x, ms1, y4, I1, g4, ht⟩ := dr_turn a b xs ms I (by omega) (some (.dat k)) x4 h4
    obtain ⟨a2, b2', ys, ms2, z1, z4, I2, l2, hf⟩ := dr_loop ks a1 b1 (xs ++ [x]) ms1 (some (.dat k)) y4 I1 (by rw [List.length_append, List.length_singleton]; omega) rfl g4
    refine ⟨a2, b2', ys, ms2, z1, z4, I2, by rw [l2, List.length_append, List.length_singleton, List.length_cons]; omega, ?_⟩
    rw [forL, bind_nm (x := x1) rfl h1]
    dsimp only
    rw [show (envD (src a b) xs ms x1 x4).set 1 (some (.dat k)) = envD (src a b) xs ms (some (.dat k)) x4 from rfl, ht]
    exact hf
theorem s_drawn (a b : Int) : ∃ (xs : List D) (a' b' : Int), (∀ x, x ∈ xs → x ∈ drawnEs) ∧ (xs.filter isMt).length ≤ 1 ∧ xs.length ≤ 5 ∧ f__law_drawn_errands.sem [.lst (src a b)] = .ok (.lst xs) (src a' b') := by
  have hB : BIG = 100000 := rfl
  obtain ⟨u, a1, b1, hu, c1⟩ := s_take a b 6 (by decide) (by decide)
  have T1 : evS g__law_drawn_errands (.parl 2 (.lst []) 3) [some (.io (src a b)), none, none, none, none] = .nx (envD (src a b) [] [] none none) := by
    rw [evS, evL, evs0]
    rfl
  have I : evi g__law_drawn_errands (.rng1 (.call 0 [.v 0, .c (.int 6)])) (envD (src a b) [] [] none none) = .ok (iotaD 0 u) (envD (src a1 b1) [] [] none none) := by
    have C : ev g__law_drawn_errands (.call 0 [.v 0, .c (.int 6)]) (envD (src a b) [] [] none none) = .ok (.val (.int (u : Int))) (envD (src a1 b1) [] [] none none) := io_call (env := envD (src a b) [] [] none none) rfl rfl rfl rfl (evs1 x_c) rfl c1
    rw [evi, C]
    show (if -1000000 ≤ (u : Int) ∧ (u : Int) ≤ 1000000 then Mp.R.ok (iotaD 0 (u : Int).toNat) _ else .bad) = _
    rw [if_pos (by omega), Int.toNat_natCast]
  obtain ⟨a2, b2', ys, ms, y1, y4, I2, l2, F⟩ := dr_loop (iotaD 0 u) a1 b1 [] [] none none ⟨(fun x h => nomatch h), rfl, .inl rfl⟩ (by rw [iota_len]; simp; omega) rfl rfl
  rw [iota_len] at l2
  have hm : ms.length ≤ 1 := by rcases I2.ms with e | e <;> rw [e] <;> decide
  refine ⟨ys, a2, b2', I2.mem, by rw [I2.one]; exact hm, by simp at l2; omega, ?_⟩
  have R3 : evS g__law_drawn_errands (.ret (.v 2)) (envD (src a2 b2') ys ms y1 y4) = .rt (.lst ys) ((envD (src a2 b2') ys ms y1 y4).set 2 (some (.dat (.lst ys)))) := by
    rw [evS, x_vo (i := 2) (ds := ys) rfl]
    rfl
  show semB g__law_drawn_errands 5 (some 0) b__law_drawn_errands [.lst (src a b)] = _
  refine sem_io (e := (envD (src a2 b2') ys ms y1 y4).set 2 (some (.dat (.lst ys)))) ?_ rfl
  exact (ss_nx T1).trans ((ss_nx (t_for (b := bDr) I F)).trans (ss_rt R3))
end Mp
set_option maxHeartbeats 4000000
namespace Mp
open PySem L2
variable [TabsW] [GdW]
theorem heardN_ok {G : Ctx} {w : Str} {cs : List HC} {e : IR} {E E1 : Env} {d : D} (h : ev G e E = .ok (.val d) E1) : ev G (.heardN w cs e) E = .ok (.val (.lst [.str w])) E1 := by
  rw [ev, h]
theorem heardN_exc {G : Ctx} {w : Str} {cs : List HC} {e : IR} {E E1 : Env} {C f : Str} {d z : D} (h : ev G e E = .exc C f d E1) (hh : hear cs C f d = some z) : ev G (.heardN w cs e) E = .ok (.val z) E1 := by
  rw [ev, h]
  show lift E1 (hear cs C f d) = _
  rw [hh]; rfl
def oddNm : List D := [.str "", .str "A", .str "abcdefghi", .str "a1", .int 5, .non, .tup [.str "a"]]
def wrongL : List D := [.int (-1), .int 10000, .bl true, .non, .str "5"]
def noEs : List D := [.int 5, .non, .str "stay", .dct, .lst [.non, .non, .non, .non, .non, .non]]
def wrongEs : List D := [.int 5, .str "stay", .tup [.str "stay", .str "a"], .tup [.str "stay", .str "a", .int 601], .tup [.str "stay", .str "a", .int (-1)], .tup [.str "stay", .str "a", .bl true], .tup [.str "meet", .str "a", .int 5],
  .tup [.str "meet"], .tup [.str "counter", .str "A", .int 5], .tup [.str "room", .str "abcdefghi", .int 5], .lst [.str "stay", .str "a", .int 5], .tup [.str "walk", .str "a", .int 5], .tup [],
  .tup [.str "stay", .str "", .int 5], .tup [.int 5, .str "a", .int 5], .tup [.str "stay", .int 5, .int 5], .tup [.str "counter", .str "a", .non], .tup [.str "meet", .non]]
theorem s_wrongEs : f__law_wrong_errands.sem [] = .ok (.lst wrongEs) [] := by kernel_rfl
theorem n_ok : f_need_name_and_place.sem [.str "a", .str "b", .str "home"] = .ok .non [] := by kernel_rfl
theorem l_7 : f_is_told_minute.sem [.int 7] = .ok (.bl true) [] := by kernel_rfl
theorem nm_odd {z : D} (h : z ∈ oddNm) : f_need_name_and_place.sem [z, z, .str "home"] = .exc "BadName" "name" z [] ∧ f_need_name_and_place.sem [.str "a", z, .str "home"] = .exc "BadPart" "part" (.str "home") [] := by
  simp only [oddNm, List.mem_cons, List.not_mem_nil, or_false] at h
  rcases h with rfl | rfl | rfl | rfl | rfl | rfl | rfl <;> exact ⟨by kernel_rfl, by kernel_rfl⟩
theorem nm_tell {z : D} (h : z ∈ oddNm) : ∃ r, bltD .repr [z] = some r ∧ hear cs__law_heard "BadName" "name" z = some (.lst [.str "name", r]) ∧ cmpD .ne (.lst [.str "name", r]) (.lst [.str "name", r]) = some false := by
  refine ⟨(bltD .repr [z]).getD .non, ?_, ?_, ?_⟩ <;> simp only [oddNm, List.mem_cons, List.not_mem_nil, or_false] at h <;> rcases h with rfl | rfl | rfl | rfl | rfl | rfl | rfl <;> kernel_rfl
theorem wl_no {z : D} (h : z ∈ wrongL) : f_is_told_minute.sem [z] = .ok (.bl false) [] := by
  simp only [wrongL, List.mem_cons, List.not_mem_nil, or_false] at h
  rcases h with rfl | rfl | rfl | rfl | rfl <;> kernel_rfl
theorem wl_tell {z : D} (h : z ∈ wrongL) : ∃ r, bltD .repr [z] = some r ∧ hear cs__law_heard "BadNumber" "number" z = some (.lst [.str "number", r]) ∧ cmpD .ne (.lst [.str "number", r]) (.lst [.str "number", r]) = some false := by
  refine ⟨(bltD .repr [z]).getD .non, ?_, ?_, ?_⟩ <;> simp only [wrongL, List.mem_cons, List.not_mem_nil, or_false] at h <;> rcases h with rfl | rfl | rfl | rfl | rfl <;> kernel_rfl
theorem ne_no {z : D} (h : z ∈ noEs) : f_need_errands.sem [z] = .exc "BadPart" "part" (.str "errands") [] := by
  simp only [noEs, List.mem_cons, List.not_mem_nil, or_false] at h
  rcases h with rfl | rfl | rfl | rfl | rfl <;> kernel_rfl
theorem we_no {z : D} (h : z ∈ wrongEs) : f_is_errand.sem [z] = .ok (.bl false) [] ∧ z ≠ .non ∧ dataD 19 z = true := by
  simp only [wrongEs, List.mem_cons, List.not_mem_nil, or_false] at h
  rcases h with rfl | rfl | rfl | rfl | rfl | rfl | rfl | rfl | rfl | rfl | rfl | rfl | rfl | rfl | rfl | rfl | rfl | rfl <;> exact ⟨by kernel_rfl, (fun z => by cases z), by kernel_rfl⟩
theorem hear_p (s : Str) : hear cs__law_heard "BadPart" "part" (.str s) = some (.lst [.str "part", .str s]) := by rfl
theorem ne_home : cmpD .ne (.lst [.str "part", .str "home"]) (.lst [.str "part", .str "home"]) = some false := by kernel_rfl
theorem ne_errands : cmpD .ne (.lst [.str "part", .str "errands"]) (.lst [.str "part", .str "errands"]) = some false := by kernel_rfl
theorem hear_e (n : Int) : hear cs__law_heard "BadErrand" "index" (.int n) = some (.lst [.str "errand", .int n]) := by kernel_rfl
theorem ne_e (n : Int) : cmpD .ne (.lst [.str "errand", .int n]) (.lst [.str "errand", .int n]) = some false := cmp_nself (dataD_lst fun d h => by
  simp only [List.mem_cons, List.not_mem_nil, or_false] at h
  rcases h with rfl | rfl
  · kernel_rfl
  · exact dataD_int)
theorem twice_x : k_Person.sem [.str "a", .str "b", .int 7, .lst [.non, .tup [.str "meet", .str "talk"], .tup [.str "stay", .str "a", .int 5], .tup [.str "meet", .str "talk"]]] = .exc "BadErrand" "index" (.int 3) [] := by kernel_rfl
theorem two_ok : ∃ out, k_Person.sem [.str "a", .str "b", .int 7, .lst [.tup [.str "meet", .str "talk"], .non, .tup [.str "meet", .str "vote"]]] = .ok .non out := ⟨[.str "a", .str "b", .int 7, .tup [.tup [.str "meet", .str "talk"], .non, .tup [.str "meet", .str "vote"]]], by kernel_rfl⟩
theorem is_non : f_is_errand.sem [.non] = .ok (.bl false) [] := by kernel_rfl
theorem eq_none : cmpD .eq (.lst [.str "none"]) (.lst [.str "none"]) = some true := by kernel_rfl
theorem nb_false : cmpD .isnot (.bl false) (.bl false) = some false := rfl
theorem lt_five (n : Nat) : cmpD .lt (.int (n : Int)) (.int 5) = some (decide (n < 5)) := by
  show some (decide ((n : Int) < (5 : Int))) = _
  congr 1
  exact decide_eq_decide.mpr (by omega)
def envQ (S xs : List D) (o w v t : Option Cell) : Env := [some (.io S), some (.dat (.lst xs)), o, w, v, t]
theorem last_x {xs : List D} (g : Good xs) (hl : xs.length < 5) {z : D} (hz : z ∈ wrongEs) : k_Person.sem [.str "a", .str "b", .int 7, .lst (xs ++ [z])] = .exc "BadErrand" "index" (.int (xs.length : Int)) [] := by
  obtain ⟨w1, w2, w3⟩ := we_no hz
  have hd : ∀ x, x ∈ xs ++ [z] → dataD 19 x = true := fun x hx => by
    rcases List.mem_append.mp hx with h | h
    · exact data_all g x h
    · rw [List.mem_singleton.mp h]; exact w3
  refine k_x3 n_ok l_7 (s_need_bad (Sq.l _) hd (by simp; omega) xs.length z (by simp) ⟨w2, .inl w1⟩ fun j x hx hj => ?_)
  rw [List.getElem?_append_left hj] at hx
  exact pass_pre g hx (List.take_append_of_le_length (by omega))
def bVal : List ST := [.if_ (.cmp .ne (.heardN "none" cs__law_heard (.make 0 [.c (.str "a"), .c (.str "b"), .c (.int 7), .v 4])) (.lst [.c (.str "part"), .c (.str "errands")])) [.ret (.c (.bl false))] []]
def bWr : List ST := [.if_ (.cmp .isnot (.call 2 [.v 4]) (.c (.bl false))) [.ret (.c (.bl false))] [], .if_ (.and_ (.cmp .lt (.blt .len [.v 1]) (.c (.int 5))) (.cmp .ne (.heardN "none" cs__law_heard (.make 0 [.c (.str "a"), .c (.str "b"), .c (.int 7), .bin .add (.v 1) (.lst [.v 4])])) (.lst [.c (.str "errand"), .blt .len [.v 1]]))) [.ret (.c (.bl false))] []]
theorem cat_l (a b : List D) (h : a.length + b.length ≤ BIG) : binD .add (.lst a) (.lst b) = some (.lst (a ++ b)) := by
  show (if a.length + b.length ≤ BIG then some (D.lst (a ++ b)) else none) = _
  rw [if_pos h]
theorem val_loop (S xs : List D) (o w : Option Cell) (t : Option Cell) : ∃ y, frC y = true ∧ forL (.name 4) (fun e => evSs g__law_refused bVal e) noEs (envQ S xs o w none t) = .nx (envQ S xs o w y t) := by
  obtain ⟨e, hf, y, hy, rfl⟩ := forL_keep (tg := .name 4) (body := fun e => evSs g__law_refused bVal e) (fun d : D => d) (fun e => ∃ y, frC y = true ∧ e = envQ S xs o w y t) noEs (envQ S xs o w none t) ⟨none, rfl, rfl⟩ fun z hz e ⟨y, hy, he⟩ => by
    subst he
    refine ⟨_, envQ S xs o w (some (.dat z)) t, bind_nm (x := y) rfl hy, ?_, _, rfl, rfl⟩
    exact (ss_nx (t_if_f0 (x_cmp (heardN_exc (make_exc9 (m := k_Person) rfl rfl (evs_cons x_c (evs3 x_c x_c (x_v rfl))) (k_x3 n_ok l_7 (ne_no hz))) (hear_p "errands")) (x_lst (evs2 x_c x_c) b2) ne_errands))).trans ss0
  rw [List.map_id'] at hf
  exact ⟨y, hy, hf⟩
theorem wr_loop (S xs : List D) (g : Good xs) (hl : xs.length ≤ 5) (o w y0 : Option Cell) (h0 : frC y0 = true) (t : Option Cell) : ∃ y, frC y = true ∧ forL (.name 4) (fun e => evSs g__law_refused bWr e) wrongEs (envQ S xs o w y0 t) = .nx (envQ S xs o w y t) := by
  have hB : BIG = 100000 := rfl
  obtain ⟨e, hf, y, hy, rfl⟩ := forL_keep (tg := .name 4) (body := fun e => evSs g__law_refused bWr e) (fun d : D => d) (fun e => ∃ y, frC y = true ∧ e = envQ S xs o w y t) wrongEs (envQ S xs o w y0 t) ⟨y0, h0, rfl⟩ fun z hz e ⟨y, hy, he⟩ => by
    subst he
    refine ⟨_, envQ S xs o w (some (.dat z)) t, bind_nm (x := y) rfl hy, ?_, _, rfl, rfl⟩
    have L : ev g__law_refused (.cmp .lt (.blt .len [.v 1]) (.c (.int 5))) (envQ S xs o w (some (.dat z)) t) = .ok (.val (.bl (decide (xs.length < 5)))) (envQ S xs o w (some (.dat z)) t) := x_cmp (x_blt1 (x_v rfl) (Sq.l xs).ln) x_c (lt_five xs.length)
    refine (ss_nx (t_if_f0 (x_cmp (call_ok cl__law_refused_2 (evs1 (x_v rfl)) (we_no hz).1) x_c nb_false))).trans ((ss_nx (t_if_f0 ?_)).trans ss0)
    by_cases h5 : xs.length < 5
    · rw [decide_eq_true h5] at L
      exact (x_and_t L rfl).trans (x_cmp (heardN_exc (make_exc9 (m := k_Person) rfl rfl (evs_cons x_c (evs3 x_c x_c (x_bin (x_v rfl) (x_lst (evs1 (x_v rfl)) (show 1 ≤ BIG by decide)) (cat_l xs [z] (by simp; omega))))) (last_x g h5 hz)) (hear_e _)) (x_lst (evs2 x_c (x_blt1 (x_v rfl) (Sq.l xs).ln)) b2) (ne_e _))
    · rw [decide_eq_false h5] at L
      exact x_and_f L rfl
  rw [List.map_id'] at hf
  exact ⟨y, hy, hf⟩
theorem s_refused (a b : Int) (xs : List D) (g : Good xs) (hl : xs.length ≤ 5) : ∃ a' b', f__law_refused.sem [.lst (src a b), .lst xs] = .ok (.bl true) (src a' b') := by
  have hB : BIG = 100000 := rfl
  obtain ⟨z, a1, b1, hz, c1⟩ := s_one a b oddNm (by simp [oddNm]) (by simp [oddNm])
  obtain ⟨w, a2, b2', hw, c2⟩ := s_one a1 b1 wrongL (by simp [wrongL]) (by simp [wrongL])
  obtain ⟨r, r1, r2, r3⟩ := nm_tell hz
  obtain ⟨s, s1, s2, s3⟩ := wl_tell hw
  obtain ⟨z1, z2⟩ := nm_odd hz
  have T1 : evS g__law_refused (.asg (.name 2) (.call 0 [.v 0, .lst [.c (.str ""), .c (.str "A"), .c (.str "abcdefghi"), .c (.str "a1"), .c (.int 5), .c .non, .tup [.c (.str "a")]]])) (envQ (src a b) xs none none none none) = .nx (envQ (src a1 b1) xs (some (.dat z)) none none none) :=
    t_asg (io_call (env := envQ (src a b) xs none none none none) rfl rfl rfl rfl (evs1 (x_lst (evs_cons x_c (evs_cons x_c (evs_cons x_c (evs_cons x_c (evs3 x_c x_c (x_tup (evs1 x_c) (show 1 ≤ BIG by decide))))))) (show 7 ≤ BIG by decide))) rfl c1) (bind_nm (x := none) rfl rfl)
  have T2 : evS g__law_refused (.asg (.name 3) (.call 0 [.v 0, .lst [.neg (.c (.int 1)), .c (.int 10000), .c (.bl true), .c .non, .c (.str "5")]])) (envQ (src a1 b1) xs (some (.dat z)) none none none) = .nx (envQ (src a2 b2') xs (some (.dat z)) (some (.dat w)) none none) :=
    t_asg (io_call (env := envQ (src a1 b1) xs (some (.dat z)) none none none) rfl rfl rfl rfl (evs1 (x_lst (evs_cons (x_neg x_c) (evs_cons x_c (evs3 x_c x_c x_c))) b5)) rfl c2) (bind_nm (x := none) rfl rfl)
  have T3 : evS g__law_refused (.if_ (.cmp .ne (.heardN "none" cs__law_heard (.make 0 [.v 2, .v 2, .v 3, .c (.int 5)])) (.lst [.c (.str "name"), .blt .repr [.v 2]])) [.ret (.c (.bl false))] []) (envQ (src a2 b2') xs (some (.dat z)) (some (.dat w)) none none) = .nx (envQ (src a2 b2') xs (some (.dat z)) (some (.dat w)) none none) :=
    t_if_f0 (x_cmp (heardN_exc (make_exc9 (m := k_Person) rfl rfl (evs_cons (x_v rfl) (evs3 (x_v rfl) (x_v rfl) x_c)) (k_x1 z1)) r2) (x_lst (evs2 x_c (x_blt1 (x_v rfl) r1)) b2) r3)
  have T4 : evS g__law_refused (.if_ (.cmp .ne (.heardN "none" cs__law_heard (.make 0 [.c (.str "a"), .v 2, .v 3, .c (.int 5)])) (.lst [.c (.str "part"), .c (.str "home")])) [.ret (.c (.bl false))] []) (envQ (src a2 b2') xs (some (.dat z)) (some (.dat w)) none none) = .nx (envQ (src a2 b2') xs (some (.dat z)) (some (.dat w)) none none) :=
    t_if_f0 (x_cmp (heardN_exc (make_exc9 (m := k_Person) rfl rfl (evs_cons x_c (evs3 (x_v rfl) (x_v rfl) x_c)) (k_x1 z2)) (hear_p "home")) (x_lst (evs2 x_c x_c) b2) ne_home)
  have T5 : evS g__law_refused (.if_ (.cmp .ne (.heardN "none" cs__law_heard (.make 0 [.c (.str "a"), .c (.str "b"), .v 3, .c (.int 5)])) (.lst [.c (.str "number"), .blt .repr [.v 3]])) [.ret (.c (.bl false))] []) (envQ (src a2 b2') xs (some (.dat z)) (some (.dat w)) none none) = .nx (envQ (src a2 b2') xs (some (.dat z)) (some (.dat w)) none none) :=
    t_if_f0 (x_cmp (heardN_exc (make_exc9 (m := k_Person) rfl rfl (evs_cons x_c (evs3 x_c (x_v rfl) x_c)) (k_x2 n_ok (wl_no hw))) s2) (x_lst (evs2 x_c (x_blt1 (x_v rfl) s1)) b2) s3)
  obtain ⟨y, hy, L6⟩ := val_loop (src a2 b2') xs (some (.dat z)) (some (.dat w)) none
  have I6 : evi g__law_refused (.seq (.lst [.c (.int 5), .c .non, .c (.str "stay"), .dnew, .bin .mul (.lst [.c .non]) (.c (.int 6))])) (envQ (src a2 b2') xs (some (.dat z)) (some (.dat w)) none none) = .ok noEs (envQ (src a2 b2') xs (some (.dat z)) (some (.dat w)) none none) := by
    have dn : ev g__law_refused .dnew (envQ (src a2 b2') xs (some (.dat z)) (some (.dat w)) none none) = .ok (.val .dct) (envQ (src a2 b2') xs (some (.dat z)) (some (.dat w)) none none) := by rw [ev]
    rw [evi, take_okD (x_lst (evs_cons x_c (evs_cons x_c (evs3 x_c dn (x_bin (x_lst (evs1 x_c) (show 1 ≤ BIG by decide)) x_c (show binD .mul (.lst [.non]) (.int 6) = some (.lst [.non, .non, .non, .non, .non, .non]) by kernel_rfl))))) b5)]
    rfl
  have T6 := t_for (b := bVal) I6 L6
  obtain ⟨y', hy', L7⟩ := wr_loop (src a2 b2') xs g hl (some (.dat z)) (some (.dat w)) y hy none
  have I7 : evi g__law_refused (.seq (.call 1 [])) (envQ (src a2 b2') xs (some (.dat z)) (some (.dat w)) y none) = .ok wrongEs (envQ (src a2 b2') xs (some (.dat z)) (some (.dat w)) y none) := by
    rw [evi, take_okD (call_ok cl__law_refused_1 evs0 s_wrongEs)]
    rfl
  have T7 := t_for (b := bWr) I7 L7
  have T8 : evS g__law_refused (.asg (.name 5) (.lst [.c .non, .tup [.c (.str "meet"), .c (.str "talk")], .tup [.c (.str "stay"), .c (.str "a"), .c (.int 5)], .tup [.c (.str "meet"), .c (.str "talk")]])) (envQ (src a2 b2') xs (some (.dat z)) (some (.dat w)) y' none) = .nx (envQ (src a2 b2') xs (some (.dat z)) (some (.dat w)) y' (some (.dat (.lst [.non, .tup [.str "meet", .str "talk"], .tup [.str "stay", .str "a", .int 5], .tup [.str "meet", .str "talk"]])))) :=
    t_asg (x_lst (evs_cons x_c (evs3 (x_tup (evs2 x_c x_c) b2) (x_tup (evs3 x_c x_c x_c) b3) (x_tup (evs2 x_c x_c) b2))) b4) (bind_nm (x := none) rfl rfl)
  have T9 : evS g__law_refused (.if_ (.or_ (.cmp .ne (.heardN "none" cs__law_heard (.make 0 [.c (.str "a"), .c (.str "b"), .c (.int 7), .v 5])) (.lst [.c (.str "errand"), .c (.int 3)])) (.cmp .isnot (.call 2 [.c .non]) (.c (.bl false)))) [.ret (.c (.bl false))] []) (envQ (src a2 b2') xs (some (.dat z)) (some (.dat w)) y' (some (.dat (.lst [.non, .tup [.str "meet", .str "talk"], .tup [.str "stay", .str "a", .int 5], .tup [.str "meet", .str "talk"]])))) = .nx (envQ (src a2 b2') xs (some (.dat z)) (some (.dat w)) y' (some (.dat (.lst [.non, .tup [.str "meet", .str "talk"], .tup [.str "stay", .str "a", .int 5], .tup [.str "meet", .str "talk"]])))) :=
    t_if_f0 ((x_or_f (x_cmp (heardN_exc (make_exc9 (m := k_Person) rfl rfl (evs_cons x_c (evs3 x_c x_c (x_v rfl))) twice_x) (hear_e 3)) (x_lst (evs2 x_c x_c) b2) (ne_e 3)) rfl).trans (x_cmp (call_ok cl__law_refused_2 (evs1 x_c) is_non) x_c nb_false))
  obtain ⟨out, two⟩ := two_ok
  have T10 : evS g__law_refused (.ret (.cmp .eq (.heardN "none" cs__law_heard (.make 0 [.c (.str "a"), .c (.str "b"), .c (.int 7), .lst [.tup [.c (.str "meet"), .c (.str "talk")], .c .non, .tup [.c (.str "meet"), .c (.str "vote")]]])) (.lst [.c (.str "none")]))) (envQ (src a2 b2') xs (some (.dat z)) (some (.dat w)) y' (some (.dat (.lst [.non, .tup [.str "meet", .str "talk"], .tup [.str "stay", .str "a", .int 5], .tup [.str "meet", .str "talk"]])))) = .rt (.bl true) (envQ (src a2 b2') xs (some (.dat z)) (some (.dat w)) y' (some (.dat (.lst [.non, .tup [.str "meet", .str "talk"], .tup [.str "stay", .str "a", .int 5], .tup [.str "meet", .str "talk"]])))) :=
    t_ret (x_cmp (heardN_ok (make_ok (m := k_Person) rfl rfl (evs_cons x_c (evs3 x_c x_c (x_lst (evs3 (x_tup (evs2 x_c x_c) b2) x_c (x_tup (evs2 x_c x_c) b2)) b3))) two)) (x_lst (evs1 x_c) (show 1 ≤ BIG by decide)) eq_none)
  refine ⟨a2, b2', ?_⟩
  show semB g__law_refused 6 (some 0) b__law_refused [.lst (src a b), .lst xs] = _
  refine sem_io (e := envQ (src a2 b2') xs (some (.dat z)) (some (.dat w)) y' (some (.dat (.lst [.non, .tup [.str "meet", .str "talk"], .tup [.str "stay", .str "a", .int 5], .tup [.str "meet", .str "talk"]])))) ?_ rfl
  exact (ss_nx T1).trans ((ss_nx T2).trans ((ss_nx T3).trans ((ss_nx T4).trans ((ss_nx T5).trans ((ss_nx T6).trans ((ss_nx T7).trans ((ss_nx T8).trans ((ss_nx T9).trans (ss_rt T10)))))))))
end Mp
set_option maxHeartbeats 4000000
namespace Mp
open PySem L2
variable [TabsW] [GdW]
theorem n_ann : f_need_name_and_place.sem [.str "ann", .str "inn", .str "home"] = .ok .non [] := by kernel_rfl
theorem l_17 : f_is_told_minute.sem [.int 17] = .ok (.bl true) [] := by kernel_rfl
theorem d_ann : dataD 20 (.str "ann") = true := by kernel_rfl
theorem d_inn : dataD 20 (.str "inn") = true := by kernel_rfl
theorem k_gen {C : D} {xs : List D} (g : Good xs) (hl : xs.length ≤ 5) (S : Sq C xs) {l : D} (h : f_is_told_minute.sem [l] = .ok (.bl true) []) : k_Person.sem [.str "ann", .str "inn", l, C] = .ok .non [.str "ann", .str "inn", l, .tup xs] := k_ok n_ann h (s_need_ok S (data_all g) hl (pass_all g)) S
theorem eqDs_rf {xs : List D} (h : ∀ x, x ∈ xs → dataD 19 x = true) : eqDs xs xs = true := by
  have := eqD_self 20 (.tup xs) (data_tup h)
  rw [eqD] at this
  exact this
theorem eqP_self {n h : D} {i : Int} {xs : List D} (d1 : dataD 20 n = true) (d2 : dataD 20 h = true) (d4 : ∀ x, x ∈ xs → dataD 19 x = true) : m_Person___eq__.sem [dP n h (.int i) xs, dP n h (.int i) xs] = .ok (.bl true) [] := by
  have q := m_eqP d1 d2 (dataD_int (i := i)) d4 d1 d2 (dataD_int (i := i)) d4
  rw [eqD_self 20 n d1, eqD_self 20 h d2, eqD_self 20 (.int i) dataD_int, eqDs_rf d4] at q
  exact q
theorem eqDs_no : ∀ {xs ys : List D} {p : Nat} {x y : D}, xs[p]? = some x → ys[p]? = some y → eqD x y = false → eqDs xs ys = false
  | [], ys, p, x, y, h, _, _ => by simp at h
  | a :: xs, [], p, x, y, _, h, _ => by simp at h
  | a :: xs, b :: ys, 0, x, y, h1, h2, e => by
    have e1 : a = x := by simpa using h1
    have e2 : b = y := by simpa using h2
    rw [eqDs, e1, e2, e]; rfl
  | a :: xs, b :: ys, p + 1, x, y, h1, h2, e => by
    rw [eqDs, eqDs_no (xs := xs) (ys := ys) (p := p) (by simpa using h1) (by simpa using h2) e, Bool.and_false]
theorem den_all : drawnEs.all (fun x => !eqD x den9) = true := by kernel_rfl
theorem den_no {x : D} (h : x ∈ drawnEs) : eqD x den9 = false := by simpa using List.all_eq_true.mp den_all x h
theorem den_good : den9 ∈ goodEs := List.mem_append_right _ List.mem_cons_self
theorem non_good : D.non ∈ goodEs := drawn_good (List.mem_append_left _ List.mem_cons_self)
theorem ok_P (n h l : D) (xs : List D) : okD m_Person___eq__.C (dP n h l xs) = true := rfl
def oddX : List D := [.int (-1), .non, .bl true, .str "0", .int 0, .int 1, .int 2, .int 3, .int 4, .int 5]
theorem tellsX {d : D} (h : d ∈ oddX) : ∃ r, bltD .repr [d] = some r ∧ hear cs__law_heard "BadIndex" "index" d = some (.lst [.str "index", r]) ∧ cmpD .ne (.lst [.str "index", r]) (.lst [.str "index", r]) = some false := by
  refine ⟨(bltD .repr [d]).getD .non, ?_, ?_, ?_⟩ <;> simp only [oddX, List.mem_cons, List.not_mem_nil, or_false] at h <;> rcases h with rfl | rfl | rfl | rfl | rfl | rfl | rfl | rfl | rfl | rfl <;> kernel_rfl
theorem smallX {m : Nat} (h : m ≤ 5) : D.int (m : Int) ∈ oddX := by
  have : m = 0 ∨ m = 1 ∨ m = 2 ∨ m = 3 ∨ m = 4 ∨ m = 5 := by omega
  rcases this with rfl | rfl | rfl | rfl | rfl | rfl <;> simp [oddX]
theorem oddx {xs : List D} (hl : xs.length ≤ 5) {z : D} (h : z ∈ [D.int (-1), .int (xs.length : Int), .non, .bl true, .str "0"]) : z ∈ oddX ∧ f_is_between.sem [z, .int 0, .int ((xs.length : Int) - 1)] = .ok (.bl false) [] := by
  simp only [List.mem_cons, List.not_mem_nil, or_false] at h
  rcases h with rfl | rfl | rfl | rfl | rfl
  · exact ⟨by simp [oddX], between_neg _⟩
  · exact ⟨smallX hl, between_big _ _ (by omega)⟩
  · exact ⟨by simp [oddX], between_non _⟩
  · exact ⟨by simp [oddX], between_bl _⟩
  · exact ⟨by simp [oddX], between_str _ _⟩
def wrongM : List D := [.int (-1), .int 10000, .non, .bl true]
theorem wm_in {z : D} (h : z ∈ wrongM) : z ∈ wrongL := by
  simp only [wrongM, List.mem_cons, List.not_mem_nil, or_false] at h
  rcases h with rfl | rfl | rfl | rfl <;> simp [wrongL]
def pA (xs : List D) : D := dP (.str "ann") (.str "inn") (.int 17) xs
def envC (S xs : List D) (x3 x4 x5 x6 x7 x8 x9 : Option Cell) : Env := [some (.io S), some (.dat (pA xs)), some (.dat (.lst xs)), x3, x4, x5, x6, x7, x8, x9]
def bOd : List ST := [.if_ (.cmp .ne (.heardN "none" cs__law_heard (.meth 2 (.v 1) [.v 6, .c (.int 5)])) (.lst [.c (.str "index"), .blt .repr [.v 6]])) [.ret (.c (.bl false))] []]
def bIn : List ST := [.asg (.name 9) (.bin .add (.bin .add (.sl (.v 2) none (some (.v 7))) (.lst [.v 8])) (.sl (.v 2) (some (.bin .add (.v 7) (.c (.int 1)))) none)), .if_ (.oeq true 1 (.meth 2 (.v 1) [.v 7, .v 8]) (.make 0 [.c (.str "ann"), .c (.str "inn"), .c (.int 17), .v 9])) [.ret (.c (.bl false))] [], .if_ (.and_ (.cmp .isnot (.v 8) (.c .non)) (.oeq false 1 (.v 1) (.make 0 [.c (.str "ann"), .c (.str "inn"), .c (.int 17), .v 9]))) [.ret (.c (.bl false))] []]
def bAt : List ST := [.for_ (.name 8) (.seq (.lst [.c .non, .tup [.c (.str "stay"), .c (.str "den"), .c (.int 9)]])) bIn, .if_ (.cmp .ne (.heardN "none" cs__law_heard (.meth 2 (.v 1) [.v 7, .c (.int 5)])) (.lst [.c (.str "errand"), .v 7])) [.ret (.c (.bl false))] []]
section
variable {S xs : List D} (g : Good xs) (hdr : ∀ x, x ∈ xs → x ∈ drawnEs) (hl : xs.length ≤ 5)
include g hdr hl
theorem in_turn {p : Nat} (hp : p < xs.length) {v : D} (hv : v ∈ [D.non, den9]) (x3 x4 x5 x6 x9 : Option Cell) (h9 : frC x9 = true) : evSs g__law_changed_right bIn (envC S xs x3 x4 x5 x6 (some (.dat (.int p))) (some (.dat v)) x9) = .nx (envC S xs x3 x4 x5 x6 (some (.dat (.int p))) (some (.dat v)) (some (.dat (.lst (putE xs p v))))) := by
  have hB : BIG = 100000 := rfl
  have hv2 : v ∈ goodEs ∧ isMt v = false := by
    simp only [List.mem_cons, List.not_mem_nil, or_false] at hv
    rcases hv with rfl | rfl
    · exact ⟨non_good, rfl⟩
    · exact ⟨den_good, by kernel_rfl⟩
  have gp := put_good g hp hv2.1 hv2.2
  have lp : (putE xs p v).length ≤ 5 := by rw [put_len hp]; exact hl
  have s1 : slD (.lst xs) none (some (p : Int)) = some (.lst (xs.take p)) := by show some (D.lst (cutD xs none (some (p : Int)))) = _; rw [cut_to]
  have s2 : slD (.lst xs) (some ((p : Int) + 1)) none = some (.lst (xs.drop (p + 1))) := by
    show some (D.lst (cutD xs (some ((p + 1 : Nat) : Int)) none)) = _
    rw [cut_from]
  have c1 := cat_l (xs.take p) [v] (by simp; omega)
  have c2 := cat_l (xs.take p ++ [v]) (xs.drop (p + 1)) (by simp; omega)
  rw [List.append_assoc] at c2
  have T1 : evS g__law_changed_right (.asg (.name 9) (.bin .add (.bin .add (.sl (.v 2) none (some (.v 7))) (.lst [.v 8])) (.sl (.v 2) (some (.bin .add (.v 7) (.c (.int 1)))) none))) (envC S xs x3 x4 x5 x6 (some (.dat (.int p))) (some (.dat v)) x9) = .nx (envC S xs x3 x4 x5 x6 (some (.dat (.int p))) (some (.dat v)) (some (.dat (.lst (putE xs p v))))) :=
    t_asg (x_bin (x_bin (x_slto (x_v rfl) (x_v rfl) s1) (x_lst (evs1 (x_v rfl)) (show 1 ≤ BIG by decide)) c1) (x_slfrom (x_v rfl) (x_bin (x_v rfl) x_c (show binD .add (.int (p : Int)) (.int 1) = some (.int ((p : Int) + 1)) from rfl)) s2) c2) (bind_nm (x := x9) rfl h9)
  generalize hE : envC S xs x3 x4 x5 x6 (some (.dat (.int p))) (some (.dat v)) (some (.dat (.lst (putE xs p v)))) = E at T1 ⊢
  have v1 : E[1]? = some (some (.dat (pA xs))) := by rw [← hE]; rfl
  have v7 : E[7]? = some (some (.dat (.int p))) := by rw [← hE]; rfl
  have v8 : E[8]? = some (some (.dat v)) := by rw [← hE]; rfl
  have v9 : E[9]? = some (some (.dat (.lst (putE xs p v)))) := by rw [← hE]; rfl
  have W : ev g__law_changed_right (.meth 2 (.v 1) [.v 7, .v 8]) E = .ok (.val (dP (.str "ann") (.str "inn") (.int 17) (putE xs p v))) E :=
    meth_ok2 (m := m_Person_with_errand) rfl (x_v v1) ⟨rfl, rfl, nc_with⟩ (evs2 (x_v v7) (x_v v8)) (m_with hp hl (k_gen gp lp (Sq.l _) l_17))
  have MK : ev g__law_changed_right (.make 0 [.c (.str "ann"), .c (.str "inn"), .c (.int 17), .v 9]) E = .ok (.val (dP (.str "ann") (.str "inn") (.int 17) (putE xs p v))) E := make_ok (m := k_Person) rfl rfl (evs_cons x_c (evs3 x_c x_c (x_v v9))) (k_gen gp lp (Sq.l _) l_17)
  refine (ss_nx T1).trans ((ss_nx (t_if_f0 (x_oeq (m := m_Person___eq__) rfl W MK ⟨rfl, rfl, ok_P _ _ _ _⟩ (eqP_self d_ann d_inn (data_all gp))))).trans ((ss_nx (t_if_f0 ?_)).trans ss0))
  simp only [List.mem_cons, List.not_mem_nil, or_false] at hv
  rcases hv with rfl | rfl
  · exact x_and_f (x_cmp (x_v v8) x_c (show cmpD .isnot .non .non = some false from rfl)) rfl
  · have q := m_eqP (n := .str "ann") (h := .str "inn") (l := .int 17) (xs := xs) (n' := .str "ann") (h' := .str "inn") (l' := .int 17) (ys := putE xs p den9) d_ann d_inn dataD_int (data_all g) d_ann d_inn dataD_int (data_all gp)
    have hx : xs[p]? = some xs[p] := List.getElem?_eq_getElem hp
    rw [eqDs_no hx (put_at hp) (den_no (hdr _ (List.getElem_mem hp))), Bool.and_false, Bool.and_false, Bool.and_false] at q
    exact (x_and_t (x_cmp (x_v v8) x_c (show cmpD .isnot den9 .non = some true from rfl)) rfl).trans (x_oeq (neg := false) (m := m_Person___eq__) rfl (x_v v1) MK ⟨rfl, rfl, ok_P _ _ _ _⟩ q)
theorem at_turn {p : Nat} (hp : p < xs.length) (x3 x4 x5 x6 x8 x9 : Option Cell) (h8 : frC x8 = true) (h9 : frC x9 = true) : ∃ y8 y9, frC y8 = true ∧ frC y9 = true ∧ evSs g__law_changed_right bAt (envC S xs x3 x4 x5 x6 (some (.dat (.int p))) x8 x9) = .nx (envC S xs x3 x4 x5 x6 (some (.dat (.int p))) y8 y9) := by
  obtain ⟨e, hf, y8, y9, k8, k9, rfl⟩ := forL_keep (tg := .name 8) (body := fun e => evSs g__law_changed_right bIn e) (fun d : D => d) (fun e => ∃ y8 y9, frC y8 = true ∧ frC y9 = true ∧ e = envC S xs x3 x4 x5 x6 (some (.dat (.int p))) y8 y9) [D.non, den9] (envC S xs x3 x4 x5 x6 (some (.dat (.int p))) x8 x9) ⟨x8, x9, h8, h9, rfl⟩ fun v hv e ⟨z8, z9, g8, g9, he⟩ => by
    subst he
    exact ⟨_, _, bind_nm (x := z8) rfl g8, in_turn g hdr hl hp hv x3 x4 x5 x6 z9 g9, _, _, rfl, rfl, rfl⟩
  rw [List.map_id'] at hf
  have I : evi g__law_changed_right (.seq (.lst [.c .non, .tup [.c (.str "stay"), .c (.str "den"), .c (.int 9)]])) (envC S xs x3 x4 x5 x6 (some (.dat (.int p))) x8 x9) = .ok [D.non, den9] (envC S xs x3 x4 x5 x6 (some (.dat (.int p))) x8 x9) := by
    rw [evi, take_okD (x_lst (evs2 x_c (x_tup (evs3 x_c x_c x_c) b3)) b2)]
    rfl
  have hd : ∀ x, x ∈ putE xs p (.int 5) → dataD 19 x = true := fun x hx => by
    unfold putE at hx
    rcases List.mem_append.mp hx with h | h
    · exact data_all g x (List.mem_of_mem_take h)
    · rcases List.mem_append.mp h with h | h
      · rw [List.mem_singleton.mp h]; exact dataD_int
      · exact data_all g x (List.mem_of_mem_drop h)
  have B := m_with_x (n := .str "ann") (h := .str "inn") (l := .int 17) (v := .int 5) hp hl (k_x3 n_ann l_17 (s_need_bad (Sq.l (putE xs p (.int 5))) hd (by rw [put_len hp]; exact hl) p (.int 5) (put_at hp) ⟨(fun z => nomatch z), .inl (by kernel_rfl)⟩ fun j x hx hj => by
    rw [put_pre hp hj] at hx
    exact pass_pre g hx (put_take hp (by omega))))
  refine ⟨y8, y9, k8, k9, (ss_nx (t_for (b := bIn) I hf)).trans ((ss_nx (t_if_f0 ?_)).trans ss0)⟩
  exact x_cmp (heardN_exc (meth_exc (m := m_Person_with_errand) rfl (x_v (d := pA xs) rfl) ⟨rfl, rfl, nc_with⟩ (evs2 (x_v rfl) x_c) B) (hear_e _)) (x_lst (evs2 x_c (x_v rfl)) b2) (ne_e _)
theorem s_changed (a b : Int) : ∃ a' b', f__law_changed_right.sem [.lst (src a b), pA xs, .lst xs] = .ok (.bl true) (src a' b') := by
  have hB : BIG = 100000 := rfl
  obtain ⟨m, a1, b1, hm, c1⟩ := s_one a b [.int 0, .int 480, .int 9999] (by simp) (by simp)
  obtain ⟨w, a2, b2', hw, c2⟩ := s_one a1 b1 wrongM (by simp [wrongM]) (by simp [wrongM])
  obtain ⟨i, hi, mi⟩ : ∃ i : Int, m = .int i ∧ f_is_told_minute.sem [.int i] = .ok (.bl true) [] := by
    simp only [List.mem_cons, List.not_mem_nil, or_false] at hm
    rcases hm with rfl | rfl | rfl <;> exact ⟨_, rfl, by kernel_rfl⟩
  subst hi
  obtain ⟨s, s1, s2, s3⟩ := wl_tell (wm_in hw)
  have T1 : evS g__law_changed_right (.asg (.name 3) (.call 0 [.v 0, .lst [.c (.int 0), .c (.int 480), .c (.int 9999)]])) (envC (src a b) xs none none none none none none none) = .nx (envC (src a1 b1) xs (some (.dat (.int i))) none none none none none none) :=
    t_asg (io_call (env := envC (src a b) xs none none none none none none none) rfl rfl rfl rfl (evs1 (x_lst (evs3 x_c x_c x_c) b3)) rfl c1) (bind_nm (x := none) rfl rfl)
  have T2 : evS g__law_changed_right (.asg (.name 4) (.meth 0 (.v 1) [.v 3])) (envC (src a1 b1) xs (some (.dat (.int i))) none none none none none none) = .nx (envC (src a1 b1) xs (some (.dat (.int i))) (some (.dat (dP (.str "ann") (.str "inn") (.int i) xs))) none none none none none) :=
    t_asg (meth_ok2 (m := m_Person_leaving_at) rfl (x_v (d := pA xs) rfl) ⟨rfl, rfl, nc_leave⟩ (evs1 (x_v rfl)) (m_leave (k_gen g hl (Sq.t xs) mi))) (bind_nm (x := none) rfl rfl)
  have T3 : evS g__law_changed_right (.if_ (.or_ (.oeq true 1 (.v 4) (.make 0 [.c (.str "ann"), .c (.str "inn"), .v 3, .v 2])) (.oeq true 1 (.v 1) (.make 0 [.c (.str "ann"), .c (.str "inn"), .c (.int 17), .v 2]))) [.ret (.c (.bl false))] []) (envC (src a1 b1) xs (some (.dat (.int i))) (some (.dat (dP (.str "ann") (.str "inn") (.int i) xs))) none none none none none) = .nx (envC (src a1 b1) xs (some (.dat (.int i))) (some (.dat (dP (.str "ann") (.str "inn") (.int i) xs))) none none none none none) :=
    t_if_f0 ((x_or_f (x_oeq (neg := true) (m := m_Person___eq__) rfl (x_v rfl) (make_ok (m := k_Person) rfl rfl (evs_cons x_c (evs3 x_c (x_v rfl) (x_v rfl))) (k_gen g hl (Sq.l xs) mi)) ⟨rfl, rfl, ok_P _ _ _ _⟩ (eqP_self d_ann d_inn (data_all g))) rfl).trans (x_oeq (neg := true) (m := m_Person___eq__) rfl (x_v (d := pA xs) rfl) (make_ok (m := k_Person) rfl rfl (evs_cons x_c (evs3 x_c x_c (x_v rfl))) (k_gen g hl (Sq.l xs) l_17)) ⟨rfl, rfl, ok_P _ _ _ _⟩ (eqP_self d_ann d_inn (data_all g))))
  have T4 : evS g__law_changed_right (.asg (.name 5) (.call 0 [.v 0, .lst [.neg (.c (.int 1)), .c (.int 10000), .c .non, .c (.bl true)]])) (envC (src a1 b1) xs (some (.dat (.int i))) (some (.dat (dP (.str "ann") (.str "inn") (.int i) xs))) none none none none none) = .nx (envC (src a2 b2') xs (some (.dat (.int i))) (some (.dat (dP (.str "ann") (.str "inn") (.int i) xs))) (some (.dat w)) none none none none) :=
    t_asg (io_call (env := envC (src a1 b1) xs (some (.dat (.int i))) (some (.dat (dP (.str "ann") (.str "inn") (.int i) xs))) none none none none none) rfl rfl rfl rfl (evs1 (x_lst (evs_cons (x_neg x_c) (evs3 x_c x_c x_c)) b4)) rfl c2) (bind_nm (x := none) rfl rfl)
  generalize hx3 : (some (.dat (.int i)) : Option Cell) = x3 at T1 T2 T3 T4
  generalize hx4 : (some (.dat (dP (.str "ann") (.str "inn") (.int i) xs)) : Option Cell) = x4 at T2 T3 T4
  have T5 : evS g__law_changed_right (.if_ (.cmp .ne (.heardN "none" cs__law_heard (.meth 0 (.v 1) [.v 5])) (.lst [.c (.str "number"), .blt .repr [.v 5]])) [.ret (.c (.bl false))] []) (envC (src a2 b2') xs x3 x4 (some (.dat w)) none none none none) = .nx (envC (src a2 b2') xs x3 x4 (some (.dat w)) none none none none) :=
    t_if_f0 (x_cmp (heardN_exc (meth_exc (m := m_Person_leaving_at) rfl (x_v (d := pA xs) rfl) ⟨rfl, rfl, nc_leave⟩ (evs1 (x_v rfl)) (m_leave_x (k_x2 n_ann (wl_no (wm_in hw))))) s2) (x_lst (evs2 x_c (x_blt1 (x_v rfl) s1)) b2) s3)
  obtain ⟨e, hf, y6, k6, rfl⟩ := forL_keep (tg := .name 6) (body := fun e => evSs g__law_changed_right bOd e) (fun d : D => d) (fun e => ∃ y6, frC y6 = true ∧ e = envC (src a2 b2') xs x3 x4 (some (.dat w)) y6 none none none) [D.int (-1), .int (xs.length : Int), .non, .bl true, .str "0"] (envC (src a2 b2') xs x3 x4 (some (.dat w)) none none none none) ⟨none, rfl, rfl⟩ fun z hz e ⟨y6, g6, he⟩ => by
    subst he
    obtain ⟨ox, bt⟩ := oddx hl hz
    obtain ⟨r, r1, r2, r3⟩ := tellsX ox
    refine ⟨_, envC (src a2 b2') xs x3 x4 (some (.dat w)) (some (.dat z)) none none none, bind_nm (x := y6) rfl g6, ?_, _, rfl, rfl⟩
    exact (ss_nx (t_if_f0 (x_cmp (heardN_exc (meth_exc (m := m_Person_with_errand) rfl (x_v (d := pA xs) rfl) ⟨rfl, rfl, nc_with⟩ (evs2 (x_v rfl) x_c) (m_with_odd bt)) r2) (x_lst (evs2 x_c (x_blt1 (x_v rfl) r1)) b2) r3))).trans ss0
  rw [List.map_id'] at hf
  have I6 : evi g__law_changed_right (.seq (.lst [.neg (.c (.int 1)), .blt .len [.v 2], .c .non, .c (.bl true), .c (.str "0")])) (envC (src a2 b2') xs x3 x4 (some (.dat w)) none none none none) = .ok [D.int (-1), .int (xs.length : Int), .non, .bl true, .str "0"] (envC (src a2 b2') xs x3 x4 (some (.dat w)) none none none none) := by
    rw [evi, take_okD (x_lst (evs_cons (x_neg x_c) (evs_cons (x_blt1 (x_v rfl) (Sq.l xs).ln) (evs3 x_c x_c x_c))) b5)]
    rfl
  have T6 := t_for (b := bOd) I6 hf
  obtain ⟨e, hf7, y7, y8, y9, _, _, _, rfl⟩ := forL_keep (tg := .name 7) (body := fun e => evSs g__law_changed_right bAt e) (fun k : Nat => D.int (k : Int)) (fun e => ∃ y7 y8 y9, frC y7 = true ∧ frC y8 = true ∧ frC y9 = true ∧ e = envC (src a2 b2') xs x3 x4 (some (.dat w)) y6 y7 y8 y9) (List.range' 0 xs.length) (envC (src a2 b2') xs x3 x4 (some (.dat w)) y6 none none none) ⟨none, none, none, rfl, rfl, rfl, rfl⟩ fun p hp e ⟨z7, z8, z9, g7, g8, g9, he⟩ => by
    subst he
    obtain ⟨y8, y9, k8, k9, h⟩ := at_turn (S := src a2 b2') g hdr hl (p := p) (by have := List.mem_range'_1.mp hp; omega) x3 x4 (some (.dat w)) y6 z8 z9 g8 g9
    exact ⟨_, _, bind_nm (x := z7) rfl g7, h, _, y8, y9, rfl, k8, k9, rfl⟩
  have I7 : evi g__law_changed_right (.rng1 (.blt .len [.v 2])) (envC (src a2 b2') xs x3 x4 (some (.dat w)) y6 none none none) = .ok ((List.range' 0 xs.length).map fun k : Nat => D.int (k : Int)) (envC (src a2 b2') xs x3 x4 (some (.dat w)) y6 none none none) := by
    rw [evi, x_blt1 (x_v (d := .lst xs) rfl) (Sq.l xs).ln, ← show iotaD ((0 : Nat) : Int) xs.length = _ from iota_map' 0 xs.length]
    show (if -1000000 ≤ (xs.length : Int) ∧ (xs.length : Int) ≤ 1000000 then Mp.R.ok (iotaD 0 (xs.length : Int).toNat) _ else .bad) = _
    rw [if_pos (by omega), Int.toNat_natCast]; rfl
  have T7 := t_for (b := bAt) I7 hf7
  refine ⟨a2, b2', ?_⟩
  show semB g__law_changed_right 10 (some 0) b__law_changed_right [.lst (src a b), pA xs, .lst xs] = _
  refine sem_io (e := envC (src a2 b2') xs x3 x4 (some (.dat w)) y6 y7 y8 y9) ?_ rfl
  exact (ss_nx T1).trans ((ss_nx T2).trans ((ss_nx T3).trans ((ss_nx T4).trans ((ss_nx T5).trans ((ss_nx T6).trans ((ss_nx T7).trans (ss_rt (t_ret x_c))))))))
end
end Mp
set_option maxHeartbeats 4000000
namespace Mp
open PySem L2
variable [TabsW] [GdW]
def kD (k : Nat) : D := .tup [.str "ann", .int (k : Int)]
def keep (xs : List D) (k : Nat) : Bool := !isNon ((xs[k]?).getD .non)
def SkipK (d : D) : Prop := ∃ p : Int, d = .tup [.int p, .non]
def TakeK (d x : D) : Prop := ∃ (p : Int) (v : D), d = .tup [.int p, v] ∧ v ≠ .non ∧ x = .tup [.str "ann", .int p]
theorem isNon_no {x : D} (h : x ≠ .non) : isNon x = false := by
  cases x <;> first | exact absurd rfl h | rfl
theorem keys_lcr (xs : List D) : ∀ (rest : List D) (k : Nat) (ys : List D), xs.drop k = rest → LcR SkipK TakeK (enumD (k : Int) rest) ys → ys = ((List.range' k rest.length).filter (keep xs)).map kD
  | [], k, ys, _, h => by
    cases h
    rfl
  | x :: rest, k, ys, hd, h => by
    obtain ⟨g1, g2⟩ := drop_get hd
    rw [List.length_cons, List.range'_succ]
    rw [enumD] at h
    cases h with
    | skip s t =>
      obtain ⟨p, e⟩ := s
      have ex : x = .non := (List.cons.inj (List.cons.inj (D.tup.inj e)).2).1
      have kp : keep xs k = false := by unfold keep; rw [g1, ex]; rfl
      rw [List.filter_cons_of_neg (by rw [kp]; decide)]
      exact keys_lcr xs rest (k + 1) _ g2 t
    | take s t =>
      obtain ⟨p, v, e, hv, rfl⟩ := s
      have e1 := D.int.inj (List.cons.inj (D.tup.inj e)).1
      have ex : x = v := (List.cons.inj (List.cons.inj (D.tup.inj e)).2).1
      have kp : keep xs k = true := by unfold keep; rw [g1]; show (!isNon x) = true; rw [ex, isNon_no hv]; rfl
      rw [List.filter_cons_of_pos kp, List.map_cons, ← keys_lcr xs rest (k + 1) _ g2 t, ← e1]
      rfl
theorem mem_enum : ∀ {xs : List D} {i : Int} {d : D}, d ∈ enumD i xs → ∃ (p : Int) (x : D), d = .tup [.int p, x] ∧ x ∈ xs
  | [], i, d, h => by cases h
  | a :: xs, i, d, h => by
    rw [enumD] at h
    rcases List.mem_cons.mp h with rfl | h
    · exact ⟨i, a, rfl, List.mem_cons_self⟩
    · obtain ⟨p, x, e, hx⟩ := mem_enum h
      exact ⟨p, x, e, List.mem_cons_of_mem _ hx⟩
theorem isnotD {x : D} (h : x ≠ .non) (hd : dataD 19 x = true) : cmpD .isnot x .non = some true := by
  cases x <;> first | exact absurd rfl h | rfl | (simp [dataD] at hd)
theorem m_keys {xs : List D} (g : Good xs) (hl : xs.length ≤ 5) : m_Person_own_keys.sem [pA xs] = .ok (.lst (((List.range' 0 xs.length).filter (keep xs)).map kD)) [] := by
  have hB : BIG = 100000 := rfl
  have hit : evi g_Person_own_keys (.enum (.fld (.v 0) "errands")) [some (.dat (pA xs)), none, none] = .ok (enumD 0 xs) [some (.dat (pA xs)), none, none] := by
    rw [evi, take_okD (fp4 (n := .str "ann") (h := .str "inn") (l := .int 17) (xs := xs) cP rfl)]
    rfl
  obtain ⟨ys, env', h1, _, h3⟩ := ev_lc_rel (G := g_Person_own_keys) (own := [1, 2]) (tg := .tup [1, 2]) (it := .enum (.fld (.v 0) "errands")) (t := some (.cmp .isnot (.v 2) (.c .non))) (e := .tup [.fld (.v 0) "name", .v 1]) (fun e => ∃ y1 y2, e = [some (.dat (pA xs)), y1, y2]) SkipK TakeK hit (by rw [enum_len]; omega) rfl rfl ⟨_, _, rfl⟩ fun d hd env ⟨y1, y2, he⟩ => by
    subst he
    obtain ⟨p, x, rfl, hx⟩ := mem_enum hd
    have hb : bindT (.tup [1, 2]) (.tup [.int p, x]) (wipeE [some (.dat (pA xs)), y1, y2] [1, 2]) = some [some (.dat (pA xs)), some (.dat (.int p)), some (.dat x)] := rfl
    refine ⟨_, hb, ?_⟩
    by_cases hn : x = .non
    · subst hn
      exact .inl ⟨_, tru_valB (x_cmp (x_v rfl) x_c (show cmpD .isnot .non .non = some false from rfl)) rfl, ⟨_, _, rfl⟩, p, rfl⟩
    · exact .inr ⟨_, _, _, tru_valB (x_cmp (x_v rfl) x_c (isnotD hn (data_all g x hx))) rfl, take_okD (x_tup (evs2 (fp1 (n := .str "ann") (h := .str "inn") (l := .int 17) (xs := xs) cP rfl) (x_v rfl)) b2), ⟨_, _, rfl⟩, p, x, rfl, hn, rfl⟩
  have e := keys_lcr xs xs 0 ys rfl h3
  rw [e] at h1
  show semB g_Person_own_keys 3 none b_Person_own_keys [pA xs] = _
  exact sem_rt (ss_rt (t_ret h1))
theorem n_den : f_need_name_and_place.sem [.str "ann", .str "den", .str "home"] = .ok .non [] := by kernel_rfl
theorem n_bo : f_need_name_and_place.sem [.str "bo", .str "inn", .str "home"] = .ok .non [] := by kernel_rfl
theorem l_18 : f_is_told_minute.sem [.int 18] = .ok (.bl true) [] := by kernel_rfl
theorem d_den : dataD 20 (.str "den") = true := by kernel_rfl
theorem d_bo : dataD 20 (.str "bo") = true := by kernel_rfl
theorem eqDs_len : ∀ {xs ys : List D}, eqDs xs ys = true → xs.length = ys.length
  | [], [], _ => rfl
  | [], b :: ys, h => by rw [eqDs] at h; cases h; all_goals simp
  | a :: xs, [], h => by rw [eqDs] at h; cases h; all_goals simp
  | a :: xs, b :: ys, h => by
    rw [eqDs, Bool.and_eq_true] at h
    rw [List.length_cons, List.length_cons, eqDs_len h.2]
theorem nolDs_of {xs : List D} (h : ∀ x, x ∈ xs → nolD x = true) : nolDs xs = true := by
  induction xs with
  | nil => rfl
  | cons a xs ih =>
    rw [nolDs, h a List.mem_cons_self, ih fun x hx => h x (List.mem_cons_of_mem _ hx)]; rfl
theorem good_non {xs : List D} (g : Good xs) : Good (xs ++ [.non]) := by
  refine ⟨fun x hx => ?_, ?_⟩
  · rcases List.mem_append.mp hx with h | h
    · exact g.1 x h
    · rw [List.mem_singleton.mp h]; exact non_good
  · rw [List.filter_append, List.filter_cons_of_neg (by decide), List.filter_nil, List.append_nil]; exact g.2
theorem atI_get {ds : List D} {k : Nat} {x : D} (h : ds[k]? = some x) : atI ds (k : Int) = some x := by
  have := at_map (fun d : D => d) ds k x h
  rwa [List.map_id'] at this
theorem evr_cons {G : Ctx} {a : IR} {is : List IR} {E E1 E2 : Env} {o : Opd} {os : List Opd} (h : ev G a E = .ok o E1) (h2 : evr G is E1 = .ok os E2) : evr G (a :: is) E = .ok (o :: os) E2 := by
  rw [evr, h, R.bind_ok, h2]; rfl
def envZ (X : D) (k : Nat) (S xs : List D) (x4 x5 : Option Cell) : Env := [some (.dat X), some (.dat (.int k)), some (.own S), some (.dat (.lst xs)), x4, x5, none, none]
def bLawT : List ST := [.new 2 (.call 0 [.v 0, .v 1]), .asg (.name 3) (.call 1 [.v 2]), .new 4 (.copy (.v 3)), .asg (.name 5) (.makeL 0 [.c (.str "ann"), .c (.str "inn"), .c (.int 17), .v 4]), .expr (.app 4 (.c .non)), .if_ (.cmp .ne (.lst [.fld (.v 5) "name", .fld (.v 5) "home", .fld (.v 5) "leaves", .fld (.v 5) "errands"]) (.lst [.c (.str "ann"), .c (.str "inn"), .c (.int 17), .blt .tuple [.v 3]])) [.ret (.c (.bl false))] [], .if_ (.cmp .ne (.meth 0 (.v 5) []) (.lc (.name 6) (.rng1 (.blt .len [.v 3])) (some (.cmp .isnot (.ix (.v 3) (.v 6)) (.c .non))) (.tup [.c (.str "ann"), .v 6]) [6])) [.ret (.c (.bl false))] [], .if_ (.cmp .ne (.lc (.name 7) (.seq (.v 3)) (some (.and_ (.cmp .isnot (.v 7) (.c .non)) (.cmp .isnot (.call 2 [.v 7]) (.c (.bl true))))) (.v 7) [7]) (.lst [])) [.ret (.c (.bl false))] [], .if_ (.or_ (.oeq true 1 (.v 5) (.make 1 [.c (.str "ann"), .blt .tuple [.v 3], .c (.str "inn"), .c (.int 17)])) (.oeq false 1 (.v 5) (.v 3))) [.ret (.c (.bl false))] [], .if_ (.or_ (.oeq false 1 (.v 5) (.make 0 [.c (.str "ann"), .c (.str "inn"), .c (.int 18), .v 3])) (.oeq false 1 (.v 5) (.make 0 [.c (.str "ann"), .c (.str "den"), .c (.int 17), .v 3]))) [.ret (.c (.bl false))] [], .if_ (.oeq false 1 (.v 5) (.make 0 [.c (.str "bo"), .c (.str "inn"), .c (.int 17), .v 3])) [.ret (.c (.bl false))] [], .if_ (.and_ (.cmp .lt (.blt .len [.v 3]) (.c (.int 5))) (.oeq false 1 (.v 5) (.make 0 [.c (.str "ann"), .c (.str "inn"), .c (.int 17), .bin .add (.v 3) (.lst [.c .non])]))) [.ret (.c (.bl false))] [], .if_ (.or_ (.not_ (.call 3 [.v 2, .v 3])) (.not_ (.call 4 [.v 2, .v 5, .v 3]))) [.ret (.c (.bl false))] []]
section
variable {E : Env} {xs : List D} (g : Good xs) (hl : xs.length ≤ 5) (v3 : E[3]? = some (some (.dat (.lst xs)))) (v5 : E[5]? = some (some (.dat (pA xs))))
include g hl v3 v5
theorem L6 : evS g_law (.if_ (.cmp .ne (.lst [.fld (.v 5) "name", .fld (.v 5) "home", .fld (.v 5) "leaves", .fld (.v 5) "errands"]) (.lst [.c (.str "ann"), .c (.str "inn"), .c (.int 17), .blt .tuple [.v 3]])) [.ret (.c (.bl false))] []) E = .nx E := by
  have d : dataD 20 (.lst [.str "ann", .str "inn", .int 17, .tup xs]) = true := by
    refine dataD_lst fun d h => ?_
    simp only [List.mem_cons, List.not_mem_nil, or_false] at h
    rcases h with rfl | rfl | rfl | rfl
    · kernel_rfl
    · kernel_rfl
    · exact dataD_int
    · exact dataD_tup (n := 18) fun x hx => data_18 (g.1 x hx)
  exact t_if_f0 (x_cmp (x_lst (evs_cons (fp1 cP v5) (evs3 (fp2 cP v5) (fp3 cP v5) (fp4 cP v5))) b4) (x_lst (evs_cons x_c (evs3 x_c x_c (x_blt1 (x_v v3) (Sq.l xs).tp))) b4) (cmp_nself d))
theorem L7 (h6 : E[6]? = some none) : evS g_law (.if_ (.cmp .ne (.meth 0 (.v 5) []) (.lc (.name 6) (.rng1 (.blt .len [.v 3])) (some (.cmp .isnot (.ix (.v 3) (.v 6)) (.c .non))) (.tup [.c (.str "ann"), .v 6]) [6])) [.ret (.c (.bl false))] []) E = .nx E := by
  have hB : BIG = 100000 := rfl
  have hi : 6 < E.length := (List.getElem?_eq_some_iff.mp h6).1
  have I : evi g_law (.rng1 (.blt .len [.v 3])) E = .ok ((List.range' 0 xs.length).map fun k : Nat => D.int (k : Int)) E := by
    rw [evi, x_blt1 (x_v v3) (Sq.l xs).ln, ← show iotaD ((0 : Nat) : Int) xs.length = _ from iota_map' 0 xs.length]
    show (if -1000000 ≤ (xs.length : Int) ∧ (xs.length : Int) ≤ 1000000 then Mp.R.ok (iotaD 0 (xs.length : Int).toNat) _ else .bad) = _
    rw [if_pos (by omega), Int.toNat_natCast]; rfl
  have C := ev_lc_filt (G := g_law) (i := 6) (t := .cmp .isnot (.ix (.v 3) (.v 6)) (.c .non)) (e := .tup [.c (.str "ann"), .v 6]) (f := fun k : Nat => D.int (k : Int)) (g := kD) (keep xs) I (by simp; omega) (by unfold hideB; rw [h6]) hi (fun k hk => by
    have hk' := List.mem_range'_1.mp hk
    have w3 : (E.set 6 (some (.dat (.int (k : Int)))))[3]? = some (some (.dat (.lst xs))) := by rw [List.getElem?_set_ne (by decide)]; exact v3
    have w6 : (E.set 6 (some (.dat (.int (k : Int)))))[6]? = some (some (.dat (.int (k : Int)))) := List.getElem?_set_self hi
    have hx : xs[k]? = some xs[k] := List.getElem?_eq_getElem (by omega)
    have c : cmpD .isnot xs[k] .non = some (keep xs k) := by
      unfold keep
      rw [hx]
      show _ = some (!isNon xs[k])
      by_cases hn : xs[k] = .non
      · rw [hn]; rfl
      · rw [isnotD hn (data_all g _ (List.getElem_mem _)), isNon_no hn]; rfl
    exact tru_valB (x_cmp (x_ix (x_v w3) (x_v w6) (show ixD (.lst xs) (.int (k : Int)) = some xs[k] from atI_get hx)) x_c c) rfl) (fun k hk _ => take_okD (x_tup (evs2 x_c (x_v (List.getElem?_set_self hi))) b2))
  have d : dataD 20 (.lst (((List.range' 0 xs.length).filter (keep xs)).map kD)) = true := by
    refine dataD_lst fun d h => ?_
    obtain ⟨k, _, rfl⟩ := List.mem_map.mp h
    refine dataD_tup (n := 18) fun x hx => ?_
    simp only [List.mem_cons, List.not_mem_nil, or_false] at hx
    rcases hx with rfl | rfl
    · kernel_rfl
    · exact dataD_int
  exact t_if_f0 (x_cmp (meth_ok2 (m := m_Person_own_keys) rfl (x_v (d := pA xs) v5) ⟨rfl, rfl, nc_keys⟩ evs0 (m_keys g hl)) C (cmp_nself d))
theorem L8 (h7 : E[7]? = some none) : evS g_law (.if_ (.cmp .ne (.lc (.name 7) (.seq (.v 3)) (some (.and_ (.cmp .isnot (.v 7) (.c .non)) (.cmp .isnot (.call 2 [.v 7]) (.c (.bl true))))) (.v 7) [7]) (.lst [])) [.ret (.c (.bl false))] []) E = .nx E := by
  have hB : BIG = 100000 := rfl
  have hi : 7 < E.length := (List.getElem?_eq_some_iff.mp h7).1
  have I : evi g_law (.seq (.v 3)) E = .ok xs E := by rw [evi, take_okD (x_v v3)]; rfl
  have C := ev_lc_run (G := g_law) (i := 7) (t := some (.and_ (.cmp .isnot (.v 7) (.c .non)) (.cmp .isnot (.call 2 [.v 7]) (.c (.bl true))))) (e := .v 7) (fun _ => false) (fun d => d) I (by omega) (by unfold hideB; rw [h7]) hi (fun x hx => by
    have w7 : (E.set 7 (some (.dat x)))[7]? = some (some (.dat x)) := List.getElem?_set_self hi
    rcases good_er (g.1 x hx) with rfl | Q
    · exact tru_valB (x_and_f (x_cmp (x_v w7) x_c (show cmpD .isnot .non .non = some false from rfl)) rfl) rfl
    · exact tru_valB ((x_and_t (x_cmp (x_v w7) x_c (isnotD Q.ne (data_all g x hx))) rfl).trans (x_cmp (call_ok cl_law_2 (evs1 (x_v w7)) Q.ok) x_c (show cmpD .isnot (.bl true) (.bl true) = some false from rfl))) rfl) (fun x hx h => nomatch h)
  rw [show xs.filter (fun _ => false) = [] from List.filter_eq_nil_iff.mpr (fun _ _ => by simp)] at C
  exact t_if_f0 (x_cmp C (x_lst evs0 (Nat.zero_le _)) (show cmpD .ne (.lst []) (.lst []) = some false by kernel_rfl))
theorem L9 : evS g_law (.if_ (.or_ (.oeq true 1 (.v 5) (.make 1 [.c (.str "ann"), .blt .tuple [.v 3], .c (.str "inn"), .c (.int 17)])) (.oeq false 1 (.v 5) (.v 3))) [.ret (.c (.bl false))] []) E = .nx E := by
  have k : k_Person_kw.sem [.str "ann", .tup xs, .str "inn", .int 17] = .ok .non [.str "ann", .str "inn", .int 17, .tup xs] := k_gen g hl (Sq.t xs) l_17
  exact t_if_f0 ((x_or_f (x_oeq (neg := true) (m := m_Person___eq__) rfl (x_v (d := pA xs) v5) (make_ok (m := k_Person_kw) rfl rfl (evs_cons x_c (evs3 (x_blt1 (x_v v3) (Sq.l xs).tp) x_c x_c)) k) ⟨rfl, rfl, ok_P _ _ _ _⟩ (eqP_self d_ann d_inn (data_all g))) rfl).trans (x_oeq (neg := false) (m := m_Person___eq__) rfl (x_v (d := pA xs) v5) (x_v v3) ⟨rfl, rfl, rfl⟩ m_eqL))
theorem oeq_no {n h e4 : D} {i : Int} {ys : List D} {e1 e2 e3 ee : IR} (h1 : ev g_law e1 E = .ok (.val n) E) (h2 : ev g_law e2 E = .ok (.val h) E) (h3 : ev g_law e3 E = .ok (.val (.int i)) E) (h4 : ev g_law ee E = .ok (.val e4) E) (k : k_Person.sem [n, h, .int i, e4] = .ok .non [n, h, .int i, .tup ys]) (dn : dataD 20 n = true) (dh : dataD 20 h = true) (dy : ∀ x, x ∈ ys → dataD 19 x = true)
    (no : (eqD (.str "ann") n && (eqD (.str "inn") h && (eqD (.int 17) (.int i) && eqDs xs ys))) = false) : ev g_law (.oeq false 1 (.v 5) (.make 0 [e1, e2, e3, ee])) E = .ok (.val (.bl false)) E := by
  have q := m_eqP (n := .str "ann") (h := .str "inn") (l := .int 17) (xs := xs) d_ann d_inn dataD_int (data_all g) dn dh (dataD_int (i := i)) dy
  rw [no] at q
  exact x_oeq (neg := false) (m := m_Person___eq__) rfl (x_v (d := pA xs) v5) (make_ok (m := k_Person) rfl rfl (evs_cons h1 (evs3 h2 h3 h4)) k) ⟨rfl, rfl, ok_P _ _ _ _⟩ q
theorem L10 : evS g_law (.if_ (.or_ (.oeq false 1 (.v 5) (.make 0 [.c (.str "ann"), .c (.str "inn"), .c (.int 18), .v 3])) (.oeq false 1 (.v 5) (.make 0 [.c (.str "ann"), .c (.str "den"), .c (.int 17), .v 3]))) [.ret (.c (.bl false))] []) E = .nx E := by
  have n1 : eqD (.int 17) (.int 18) = false := by kernel_rfl
  have n2 : eqD (.str "inn") (.str "den") = false := by kernel_rfl
  exact t_if_f0 ((x_or_f (oeq_no g hl v3 v5 x_c x_c x_c (x_v v3) (k_gen g hl (Sq.l xs) l_18) d_ann d_inn (data_all g) (by rw [n1, Bool.false_and, Bool.and_false, Bool.and_false])) rfl).trans (oeq_no g hl v3 v5 x_c x_c x_c (x_v v3) (k_ok n_den l_17 (s_need_ok (Sq.l xs) (data_all g) hl (pass_all g)) (Sq.l xs)) d_ann d_den (data_all g) (by rw [n2, Bool.false_and, Bool.and_false])))
theorem L11 : evS g_law (.if_ (.oeq false 1 (.v 5) (.make 0 [.c (.str "bo"), .c (.str "inn"), .c (.int 17), .v 3])) [.ret (.c (.bl false))] []) E = .nx E := by
  have n1 : eqD (.str "ann") (.str "bo") = false := by kernel_rfl
  exact t_if_f0 (oeq_no g hl v3 v5 x_c x_c x_c (x_v v3) (k_ok n_bo l_17 (s_need_ok (Sq.l xs) (data_all g) hl (pass_all g)) (Sq.l xs)) d_bo d_inn (data_all g) (by rw [n1, Bool.false_and]))
theorem L12 : evS g_law (.if_ (.and_ (.cmp .lt (.blt .len [.v 3]) (.c (.int 5))) (.oeq false 1 (.v 5) (.make 0 [.c (.str "ann"), .c (.str "inn"), .c (.int 17), .bin .add (.v 3) (.lst [.c .non])]))) [.ret (.c (.bl false))] []) E = .nx E := by
  have hB : BIG = 100000 := rfl
  have L : ev g_law (.cmp .lt (.blt .len [.v 3]) (.c (.int 5))) E = .ok (.val (.bl (decide (xs.length < 5)))) E := x_cmp (x_blt1 (x_v v3) (Sq.l xs).ln) x_c (lt_five xs.length)
  by_cases h5 : xs.length < 5
  · rw [decide_eq_true h5] at L
    have g2 := good_non g
    have n1 : eqDs xs (xs ++ [.non]) = false := by
      cases h : eqDs xs (xs ++ [.non]) with
      | false => rfl
      | true =>
        have := eqDs_len h
        simp at this
    exact t_if_f0 ((x_and_t L rfl).trans (oeq_no g hl v3 v5 x_c x_c x_c (x_bin (x_v v3) (x_lst (evs1 x_c) (show 1 ≤ BIG by decide)) (cat_l xs [.non] (by simp; omega))) (k_gen g2 (by simp; omega) (Sq.l _) l_17) d_ann d_inn (data_all g2) (by rw [n1, Bool.and_false, Bool.and_false, Bool.and_false])))
  · rw [decide_eq_false h5] at L
    exact t_if_f0 (x_and_f L rfl)
end
theorem law_turn (ns : List Int) (k : Nat) (hk : k < 100) (x2 x3 x4 x5 : Option Cell) (h2 : frC x2 = true) (h3 : frC x3 = true) (h4 : frC x4 = true) (h5 : frC x5 = true) : ∃ y2 y3 y4 y5, (frC y2 = true ∧ frC y3 = true ∧ frC y4 = true ∧ frC y5 = true) ∧
    evSs g_law bLawT [some (.dat (.lst (ns.map .int))), some (.dat (.int k)), x2, x3, x4, x5, none, none] = .nx [some (.dat (.lst (ns.map .int))), some (.dat (.int k)), y2, y3, y4, y5, none, none] := by
  have hBg : BIG = 100000 := rfl
  obtain ⟨a, b, c0⟩ := s_pool ns k hk
  obtain ⟨X, hX⟩ : ∃ X, D.lst (ns.map D.int) = X := ⟨_, rfl⟩
  rw [hX] at c0 ⊢
  clear hX
  have T1 : evS g_law (.new 2 (.call 0 [.v 0, .v 1])) [some (.dat X), some (.dat (.int k)), x2, x3, x4, x5, none, none] = .nx [some (.dat X), some (.dat (.int k)), some (.own (src a b)), x3, x4, x5, none, none] :=
    t_newc (f := f__law_pool) rfl rfl (evs2 (x_v rfl) (x_v rfl)) c0 (show 2 ≤ BIG by omega) (x := x2) rfl h2
  obtain ⟨xs, a1, b1, hdr, one, hl, c1⟩ := s_drawn a b
  have g : Good xs := ⟨fun x hx => drawn_good (hdr x hx), one⟩
  have T2 : evS g_law (.asg (.name 3) (.call 1 [.v 2])) [some (.dat X), some (.dat (.int k)), some (.own (src a b)), x3, x4, x5, none, none] = .nx (envZ X k (src a1 b1) xs x4 x5) :=
    t_asg (own_call (env := [some (.dat X), some (.dat (.int k)), some (.own (src a b)), x3, x4, x5, none, none]) rfl rfl rfl rfl evs0 rfl c1) (bind_nm (x := x3) rfl h3)
  have T3 : evS g_law (.new 4 (.copy (.v 3))) (envZ X k (src a1 b1) xs x4 x5) = .nx (envZ X k (src a1 b1) xs (some (.own xs)) x5) := t_newcp (x := x4) (x_v (d := .lst xs) rfl) rfl (by omega) rfl h4
  have T4 : evS g_law (.asg (.name 5) (.makeL 0 [.c (.str "ann"), .c (.str "inn"), .c (.int 17), .v 4])) (envZ X k (src a1 b1) xs (some (.own xs)) x5) = .nx (envZ X k (src a1 b1) xs (some (.own xs)) (some (.dat (pA xs)))) :=
    t_asg (x_makeL (m := k_Person) (ds := [.str "ann", .str "inn", .int 17, .lst xs]) rfl rfl (evr_cons x_c (evr_cons x_c (evr_cons x_c (evr1 (x_vo (ds := xs) rfl))))) rfl (k_gen g hl (Sq.l xs) l_17) (by
      show (true && (true && (true && (nolDs xs && true)))) = true
      rw [nolDs_of fun x hx => good_nol (g.1 x hx)]; rfl)) (bind_nm (x := x5) rfl h5)
  have T5 : evS g_law (.expr (.app 4 (.c .non))) (envZ X k (src a1 b1) xs (some (.own xs)) (some (.dat (pA xs)))) = .nx (envZ X k (src a1 b1) xs (some (.own (xs ++ [.non]))) (some (.dat (pA xs)))) := t_expr (x_app rfl x_c rfl (by omega))
  have A6 := L6 (E := envZ X k (src a1 b1) xs (some (.own (xs ++ [.non]))) (some (.dat (pA xs)))) g hl rfl rfl
  have A7 := L7 (E := envZ X k (src a1 b1) xs (some (.own (xs ++ [.non]))) (some (.dat (pA xs)))) g hl rfl rfl rfl
  have A8 := L8 (E := envZ X k (src a1 b1) xs (some (.own (xs ++ [.non]))) (some (.dat (pA xs)))) g hl rfl rfl rfl
  have A9 := L9 (E := envZ X k (src a1 b1) xs (some (.own (xs ++ [.non]))) (some (.dat (pA xs)))) g hl rfl rfl
  have A10 := L10 (E := envZ X k (src a1 b1) xs (some (.own (xs ++ [.non]))) (some (.dat (pA xs)))) g hl rfl rfl
  have A11 := L11 (E := envZ X k (src a1 b1) xs (some (.own (xs ++ [.non]))) (some (.dat (pA xs)))) g hl rfl rfl
  have A12 := L12 (E := envZ X k (src a1 b1) xs (some (.own (xs ++ [.non]))) (some (.dat (pA xs)))) g hl rfl rfl
  obtain ⟨a2, b2', c2⟩ := s_refused a1 b1 xs g hl
  obtain ⟨a3, b3', c3⟩ := s_changed g hdr hl a2 b2'
  have T13 : evS g_law (.if_ (.or_ (.not_ (.call 3 [.v 2, .v 3])) (.not_ (.call 4 [.v 2, .v 5, .v 3]))) [.ret (.c (.bl false))] []) (envZ X k (src a1 b1) xs (some (.own (xs ++ [.non]))) (some (.dat (pA xs)))) = .nx (envZ X k (src a3 b3') xs (some (.own (xs ++ [.non]))) (some (.dat (pA xs)))) :=
    t_if_f0 ((x_or_f (x_notb (b := true) (own_call (env := envZ X k (src a1 b1) xs (some (.own (xs ++ [.non]))) (some (.dat (pA xs)))) rfl rfl rfl rfl (evs1 (x_v (d := .lst xs) rfl)) rfl c2)) rfl).trans (x_notb (b := true) (own_call (env := envZ X k (src a2 b2') xs (some (.own (xs ++ [.non]))) (some (.dat (pA xs)))) rfl rfl rfl rfl (evs2 (x_v (d := pA xs) rfl) (x_v (d := .lst xs) rfl)) rfl c3)))
  exact ⟨_, _, _, _, ⟨rfl, rfl, rfl, rfl⟩, (ss_nx T1).trans ((ss_nx T2).trans ((ss_nx T3).trans ((ss_nx T4).trans ((ss_nx T5).trans ((ss_nx A6).trans ((ss_nx A7).trans ((ss_nx A8).trans ((ss_nx A9).trans ((ss_nx A10).trans ((ss_nx A11).trans ((ss_nx A12).trans ((ss_nx T13).trans ss0))))))))))))⟩
theorem law_loop (ns : List Int) : ∀ (ks : List Nat) (x1 x2 x3 x4 x5 : Option Cell), (∀ k, k ∈ ks → k < 100) → frC x1 = true → frC x2 = true → frC x3 = true → frC x4 = true → frC x5 = true →
    ∃ e, forL (.name 1) (fun e => evSs g_law bLawT e) (ks.map fun k : Nat => D.int (k : Int)) [some (.dat (.lst (ns.map .int))), x1, x2, x3, x4, x5, none, none] = .nx e
  | [], x1, x2, x3, x4, x5, _, _, _, _, _, _ => ⟨_, rfl⟩
  | k :: ks, x1, x2, x3, x4, x5, h, h1, h2, h3, h4, h5 => by
    obtain ⟨z2, z3, z4, z5, ⟨g2, g3, g4, g5⟩, ht⟩ := law_turn ns k (h k List.mem_cons_self) x2 x3 x4 x5 h2 h3 h4 h5
    obtain ⟨e, hf⟩ := law_loop ns ks (some (.dat (.int k))) z2 z3 z4 z5 (fun j hj => h j (List.mem_cons_of_mem _ hj)) rfl g2 g3 g4 g5
    refine ⟨e, ?_⟩
    rw [List.map_cons, forL, bind_nm (x := x1) rfl h1]
    dsimp only
    rw [show ([some (.dat (.lst (ns.map .int))), x1, x2, x3, x4, x5, none, none] : Env).set 1 (some (.dat (.int (k : Int)))) = [some (.dat (.lst (ns.map .int))), some (.dat (.int (k : Int))), x2, x3, x4, x5, none, none] from rfl, ht]
    exact hf
theorem math (ns : List Int) (hl : ns.length ≤ 63) : ∃ out, semB g_law 8 none b_law [.lst (ns.map .int)] = .ok (.bl true) out := by
  refine ⟨[], ?_⟩
  have q := s_rounds (ns.map .int)
  obtain ⟨m, hm⟩ : ∃ m, max 1 (min (ns.map D.int).length 3) = m := ⟨_, rfl⟩
  have hm4 : m ≤ 4 := by omega
  rw [hm] at q
  have io : iotaD 0 m = (List.range' 0 m).map fun k : Nat => D.int (k : Int) := iota_map' 0 m
  obtain ⟨e, hf⟩ := law_loop ns (List.range' 0 m) none none none none none (fun k hk => by have := List.mem_range'_1.mp hk; omega) rfl rfl rfl rfl rfl
  rw [← io] at hf
  have e0 : b_law = [.for_ (.name 1) (.seq (.call 0 [.v 0])) bLawT, .ret (.c (.bl true))] := rfl
  have E : evi g_law (.seq (.call 0 [.v 0])) [some (.dat (.lst (ns.map .int))), none, none, none, none, none, none, none] = .ok (iotaD 0 m) [some (.dat (.lst (ns.map .int))), none, none, none, none, none, none, none] := by
    rw [evi, take_okD (call_ok cl_law_0 (evs1 (x_v rfl)) q)]
    rfl
  have st : startE none 8 [D.lst (ns.map .int)] = [some (.dat (.lst (ns.map .int))), none, none, none, none, none, none, none] := rfl
  refine sem_rt (e := e) ?_
  rw [e0, st]
  exact (ss_nx (t_for E hf)).trans (ss_rt (t_ret x_c))
end Mp
set_option maxHeartbeats 4000000
namespace Mp
open PySem L2 PyProof.Rows
theorem tabS_empty {H : Hp} {P : Addr} {q : Str} (h : H P = some (.tbl #[])) : LamX.TabS H P q := ⟨#[], h, trivial, fun pos cv hc => by cases hc⟩
theorem tabIn_of {K : PySem.W.Frag} {x : Str} {f c P : Addr} {oc xo : Value} {od xd : Option Addr} {fd : FuncData} {sl xs : Array (Option Value)} {vs : Array Value} (ha : PySem.W.nsIn K mainGlobals x = some (some (.ref f))) (hl : K.lookup f = some ⟨oc, od, .func fd, sl⟩) (hc : fd.code = .ref c) (hx : K.lookup c = some ⟨xo, xd, .fields vs, xs⟩) (hp : (vs[11]? : Option Value) = some (.ref P)) : PySem.W.tabIn K x = some (c, P) := by
  unfold PySem.W.tabIn
  rw [ha]
  dsimp only
  rw [hl]
  dsimp only
  rw [hc]
  dsimp only
  rw [hx]
  dsimp only
  rw [hp]
theorem FnOk.imp [GdW] {P : Program} {w : World} {K : PySem.W.Frag} {mg : Str → Option Value} {base : Heap} {CX : CXT} {k : Nat} {f : Addr} {fd : FuncData} {ps : List Str} {sp sp2 : Sp} (F : FnOk P w K mg base CX k f fd ps sp) (h : ∀ vs H Q E, sp2 vs H Q E → sp vs H Q E) : FnOk P w K mg base CX k f fd ps sp2 := ⟨fun vs H Q E z => F.len vs H Q E (h _ _ _ _ z), fun A out s H args us vs Q E hr e0 b r z => F.go A out s H args us vs Q E hr e0 b r (h _ _ _ _ z)⟩
theorem exm_cc {K : PySem.W.Frag} {S S' : Addr} {r : Bool} (h1 : PySem.W.subIn K (.ref S') (.type "BaseException") = some true) (h2 : PySem.W.isClsIn K S' = true) (h3 : PySem.W.typeIn K (.ref S') = some (.type "type")) (h4 : PySem.W.subIn K (.ref S) (.ref S') = some r) : PySem.W.exmOne K (.ref S) (.ref S') = some r := by
  have e1 : (PySem.W.subIn K (.ref S') (.type "BaseException") == some true) = true := by rw [h1] <;> rfl
  have e2 : ((PySem.W.clsIn K S').isSome && PySem.W.typeIn K (.ref S') == some (.type "type")) = true := by
    have h2' : (PySem.W.clsIn K S').isSome = true := h2
    rw [h2', h3] <;> rfl
  show (if (PySem.W.subIn K (.ref S') (.type "BaseException") == some true) = true then (if ((PySem.W.clsIn K S').isSome && PySem.W.typeIn K (.ref S') == some (.type "type")) = true then PySem.W.subIn K (.ref S) (.ref S') else none) else none) = some r
  rw [if_pos e1, if_pos e2]
  exact h4
theorem all_mk {l : PySem.W.OpenLaw} {w : World} {K : PySem.W.Frag} {h : Heap} {mg : Str → Option Value} {fa C_Person C_BadPart I_BadPart N_BadPart C_DayError C_BadNumber I_BadNumber N_BadNumber C_BadIndex I_BadIndex N_BadIndex C_BadName I_BadName N_BadName C_BadKey I_BadKey N_BadKey C_BadErrand I_BadErrand N_BadErrand C_BadOrder I_BadOrder N_BadOrder C_NoWay I_NoWay N_NoWay f0 f1 f2 f3 f4 f5 f6 f7 f8 f9 t9 td9_0 f10 f11 f12 f13 f14 f15 f16 f17 f18 f19 f20 cc20 P20 f21 cc21 P21 f22 fH0 : Addr} (X : K.In h) (G : h.Ns mainGlobals mg) (hfa : mg "law" = some (.ref fa))
    {nm_BadPart q_BadPart : Str} {bs_BadPart sub_BadPart : List Value} {sn_BadPart : List Str} {ab_BadPart : Bool} {col_BadPart : Option Bool} {dd_BadPart : Option Addr} {m0_BadPart m1_BadPart m2_BadPart m3_BadPart m5_BadPart : Option Value}
    {od_BadPart an_BadPart : Option Addr} {sl_BadPart : Array (Option Value)} {oc_BadPart dc_BadPart pm_BadPart cd_BadPart ct_BadPart : Value}
    {nm_BadNumber q_BadNumber : Str} {bs_BadNumber sub_BadNumber : List Value} {sn_BadNumber : List Str} {ab_BadNumber : Bool} {col_BadNumber : Option Bool} {dd_BadNumber : Option Addr} {m0_BadNumber m1_BadNumber m2_BadNumber m3_BadNumber m5_BadNumber : Option Value}
    {od_BadNumber an_BadNumber : Option Addr} {sl_BadNumber : Array (Option Value)} {oc_BadNumber dc_BadNumber pm_BadNumber cd_BadNumber ct_BadNumber : Value}
    {nm_BadIndex q_BadIndex : Str} {bs_BadIndex sub_BadIndex : List Value} {sn_BadIndex : List Str} {ab_BadIndex : Bool} {col_BadIndex : Option Bool} {dd_BadIndex : Option Addr} {m0_BadIndex m1_BadIndex m2_BadIndex m3_BadIndex m5_BadIndex : Option Value}
    {od_BadIndex an_BadIndex : Option Addr} {sl_BadIndex : Array (Option Value)} {oc_BadIndex dc_BadIndex pm_BadIndex cd_BadIndex ct_BadIndex : Value}
    {nm_BadName q_BadName : Str} {bs_BadName sub_BadName : List Value} {sn_BadName : List Str} {ab_BadName : Bool} {col_BadName : Option Bool} {dd_BadName : Option Addr} {m0_BadName m1_BadName m2_BadName m3_BadName m5_BadName : Option Value}
    {od_BadName an_BadName : Option Addr} {sl_BadName : Array (Option Value)} {oc_BadName dc_BadName pm_BadName cd_BadName ct_BadName : Value}
    {nm_BadKey q_BadKey : Str} {bs_BadKey sub_BadKey : List Value} {sn_BadKey : List Str} {ab_BadKey : Bool} {col_BadKey : Option Bool} {dd_BadKey : Option Addr} {m0_BadKey m1_BadKey m2_BadKey m3_BadKey m5_BadKey : Option Value}
    {od_BadKey an_BadKey : Option Addr} {sl_BadKey : Array (Option Value)} {oc_BadKey dc_BadKey pm_BadKey cd_BadKey ct_BadKey : Value}
    {nm_BadErrand q_BadErrand : Str} {bs_BadErrand sub_BadErrand : List Value} {sn_BadErrand : List Str} {ab_BadErrand : Bool} {col_BadErrand : Option Bool} {dd_BadErrand : Option Addr} {m0_BadErrand m1_BadErrand m2_BadErrand m3_BadErrand m5_BadErrand : Option Value}
    {od_BadErrand an_BadErrand : Option Addr} {sl_BadErrand : Array (Option Value)} {oc_BadErrand dc_BadErrand pm_BadErrand cd_BadErrand ct_BadErrand : Value}
    {nm_BadOrder q_BadOrder : Str} {bs_BadOrder sub_BadOrder : List Value} {sn_BadOrder : List Str} {ab_BadOrder : Bool} {col_BadOrder : Option Bool} {dd_BadOrder : Option Addr} {m0_BadOrder m1_BadOrder m2_BadOrder m3_BadOrder m5_BadOrder : Option Value}
    {od_BadOrder an_BadOrder : Option Addr} {sl_BadOrder : Array (Option Value)} {oc_BadOrder dc_BadOrder pm_BadOrder cd_BadOrder ct_BadOrder : Value}
    {nm_NoWay q_NoWay : Str} {bs_NoWay sub_NoWay : List Value} {sn_NoWay : List Str} {ab_NoWay : Bool} {col_NoWay : Option Bool} {dd_NoWay : Option Addr} {m0_NoWay m1_NoWay m2_NoWay m3_NoWay m5_NoWay : Option Value}
    {od_NoWay an_NoWay : Option Addr} {sl_NoWay : Array (Option Value)} {oc_NoWay dc_NoWay pm_NoWay cd_NoWay ct_NoWay : Value}
    {od0 an0 od1 an1 od2 an2 od3 an3 od4 an4 od5 an5 od6 an6 od7 an7 od8 an8 od9 an9 od10 an10 od11 an11 od12 an12 od13 an13 od14 an14 od15 an15 od16 an16 od17 an17 od18 an18 od19 an19 od20 an20 od21 an21 od22 an22 odH0 anH0 : Option Addr} {sl0 sl1 sl2 sl3 sl4 sl5 sl6 sl7 sl8 sl9 sl10 sl11 sl12 sl13 sl14 sl15 sl16 sl17 sl18 sl19 sl20 sl21 sl22 slH0 : Array (Option Value)} {oc0 kV0 dc0 pm0 cd0 ct0 oc1 kV1 dc1 pm1 cd1 ct1 oc2 kV2 dc2 pm2 cd2 ct2 oc3 kV3 dc3 pm3 cd3 ct3 oc4 kV4 dc4 pm4 cd4 ct4 oc5 kV5 dc5 pm5 cd5 ct5 oc6 kV6 dc6 pm6 cd6 ct6 oc7 kV7 dc7 pm7 cd7 ct7 oc8 kV8 dc8 pm8 cd8 ct8 oc9 kV9 dc9 pm9 cd9 ct9 oc10 kV10 dc10 pm10 cd10 ct10 oc11 kV11 dc11 pm11 cd11 ct11 oc12 kV12 dc12 pm12 cd12 ct12 oc13 kV13 dc13 pm13 cd13 ct13 oc14 kV14 dc14 pm14 cd14 ct14 oc15 kV15 dc15 pm15 cd15 ct15 oc16 kV16 dc16 pm16 cd16 ct16 oc17 kV17 dc17 pm17 cd17 ct17 oc18 kV18 dc18 pm18 cd18 ct18 oc19 kV19 dc19 pm19 cd19 ct19 oc20 kV20 dc20 pm20  ct20 oc21 kV21 dc21 pm21  ct21 oc22 kV22 dc22 pm22 cd22 ct22 ocH0 kVH0 dcH0 pmH0 cdH0 ctH0 : Value}
    {NLAST_MINUTE NLONGEST NLETTERS : Nat}
    {tc9 : Value} {td9 : Option Addr} {tn9 : Nat} {ts9 : Array (Option Value)}
    {xo20 : Value} {xd20 : Option Addr} {xv20 : Array Value} {xs20 : Array (Option Value)}
    {xo21 : Value} {xd21 : Option Addr} {xv21 : Array Value} {xs21 : Array (Option Value)}
    (th20 : PySem.W.CodeHd h cc20 P20 ∧ h.get? P20 = some tab0)
    (th21 : PySem.W.CodeHd h cc21 P21 ∧ h.get? P21 = some tab0)
    (aC_Person : PySem.W.nsIn K mainGlobals "Person" = some (some (.ref C_Person)))
    (pgC_Person : PySem.W.plainGet K C_Person Str.empty = true)
    (hdC_Person : PySem.W.hasDictIn K C_Person = true)
    (poC_Person : PySem.W.plainOver K C_Person = true)
    (saC_Person : PySem.W.findIn K (.ref C_Person) "__setattr__" = some (some (.builtin "object.__setattr__")))
    (mkC_Person : PySem.W.makesIn K C_Person = true)
    (kcC_Person : PySem.W.keepIn K (.ref C_Person) = true)
    (haC_Person : PySem.W.findIn K (.ref C_Person) "__class__" = some (some (.builtin "object.__class__")))
    (hmC_Person : PySem.W.mroIn K C_Person (.type "object") = some true)
    (nnameC_Person : PySem.W.findIn K (.ref C_Person) "name" = some none)
    (nhomeC_Person : PySem.W.findIn K (.ref C_Person) "home" = some none)
    (nleavesC_Person : PySem.W.findIn K (.ref C_Person) "leaves" = some none)
    (nerrandsC_Person : PySem.W.findIn K (.ref C_Person) "errands" = some none)
    (oc_hn : PySem.W.specialIn K (.builtin "object.__class__") "__get__" = some (some (.builtin "getset_descriptor.__get__")))
    (oc_ht : PySem.W.takesIn K (.builtin "object.__class__") = some true)
    (aC_BadPart : PySem.W.nsIn K mainGlobals "BadPart" = some (some (.ref C_BadPart)))
    (xC_BadPart : K.lookup C_BadPart = some (excClassObj nm_BadPart q_BadPart C_BadPart N_BadPart bs_BadPart [.ref C_DayError, .type "ValueError", .type "Exception", .type "BaseException", .type "object"] true sn_BadPart sub_BadPart ab_BadPart col_BadPart dd_BadPart m0_BadPart m1_BadPart m2_BadPart m3_BadPart m5_BadPart "ValueError.__new__"))
    (saC_BadPart : PySem.W.findIn K (.ref C_BadPart) "__setattr__" = some (some (.builtin "object.__setattr__")))
    (gaC_BadPart : PySem.W.findIn K (.ref C_BadPart) "__getattribute__" = some (some (.builtin "BaseException.__getattribute__")))
    (ggC_BadPart : PySem.W.findIn K (.ref C_BadPart) "__getattr__" = some none)
    (nbC_BadPart : PySem.W.findIn K (.ref C_BadPart) "part" = some none)
    (iC_BadPart : PySem.W.findIn K (.ref C_BadPart) "__init__" = some (some (.ref I_BadPart)))
    (tiC_BadPart : PySem.W.typeIn K (.ref I_BadPart) = some (.type "function"))
    (lC_BadPart : K.lookup I_BadPart = some ⟨oc_BadPart, od_BadPart, .func (PySem.W.fnOf "__init__" "BadPart.__init__" (PySem.ErrBadPart.iA ⟨6, 17, 6, 21⟩ ⟨6, 23, 6, 27⟩) (PySem.ErrBadPart.iB ⟨7, 8, 7, 12⟩ ⟨7, 8, 7, 17⟩ ⟨7, 20, 7, 24⟩ ⟨7, 8, 7, 24⟩) PySem.ErrBadPart.iS .none .none dc_BadPart pm_BadPart an_BadPart cd_BadPart ct_BadPart), sl_BadPart⟩)
    (cC_BadPart : PySem.W.codeIn K cd_BadPart "BadPart.__init__" = true)
    (kC_BadPart : PySem.W.keepIn K (.ref C_BadPart) = true)
    (eC_BadPart : PySem.W.subIn K (.ref C_BadPart) (.type "BaseException") = some true)
    (tyC_BadPart : PySem.W.typeIn K (.ref C_BadPart) = some (.type "type"))
    (hdC_BadPart : PySem.W.hasDictIn K C_BadPart = true)
    (icC_BadPart : PySem.W.isClsIn K C_BadPart = true)
    (aC_BadNumber : PySem.W.nsIn K mainGlobals "BadNumber" = some (some (.ref C_BadNumber)))
    (xC_BadNumber : K.lookup C_BadNumber = some (excClassObj nm_BadNumber q_BadNumber C_BadNumber N_BadNumber bs_BadNumber [.ref C_DayError, .type "ValueError", .type "Exception", .type "BaseException", .type "object"] true sn_BadNumber sub_BadNumber ab_BadNumber col_BadNumber dd_BadNumber m0_BadNumber m1_BadNumber m2_BadNumber m3_BadNumber m5_BadNumber "ValueError.__new__"))
    (saC_BadNumber : PySem.W.findIn K (.ref C_BadNumber) "__setattr__" = some (some (.builtin "object.__setattr__")))
    (gaC_BadNumber : PySem.W.findIn K (.ref C_BadNumber) "__getattribute__" = some (some (.builtin "BaseException.__getattribute__")))
    (ggC_BadNumber : PySem.W.findIn K (.ref C_BadNumber) "__getattr__" = some none)
    (nbC_BadNumber : PySem.W.findIn K (.ref C_BadNumber) "number" = some none)
    (iC_BadNumber : PySem.W.findIn K (.ref C_BadNumber) "__init__" = some (some (.ref I_BadNumber)))
    (tiC_BadNumber : PySem.W.typeIn K (.ref I_BadNumber) = some (.type "function"))
    (lC_BadNumber : K.lookup I_BadNumber = some ⟨oc_BadNumber, od_BadNumber, .func (PySem.W.fnOf "__init__" "BadNumber.__init__" (PySem.ErrBadNumber.iA ⟨10, 17, 10, 21⟩ ⟨10, 23, 10, 29⟩) (PySem.ErrBadNumber.iB ⟨11, 8, 11, 12⟩ ⟨11, 8, 11, 19⟩ ⟨11, 22, 11, 28⟩ ⟨11, 8, 11, 28⟩) PySem.ErrBadNumber.iS .none .none dc_BadNumber pm_BadNumber an_BadNumber cd_BadNumber ct_BadNumber), sl_BadNumber⟩)
    (cC_BadNumber : PySem.W.codeIn K cd_BadNumber "BadNumber.__init__" = true)
    (kC_BadNumber : PySem.W.keepIn K (.ref C_BadNumber) = true)
    (eC_BadNumber : PySem.W.subIn K (.ref C_BadNumber) (.type "BaseException") = some true)
    (tyC_BadNumber : PySem.W.typeIn K (.ref C_BadNumber) = some (.type "type"))
    (hdC_BadNumber : PySem.W.hasDictIn K C_BadNumber = true)
    (icC_BadNumber : PySem.W.isClsIn K C_BadNumber = true)
    (aC_BadIndex : PySem.W.nsIn K mainGlobals "BadIndex" = some (some (.ref C_BadIndex)))
    (xC_BadIndex : K.lookup C_BadIndex = some (excClassObj nm_BadIndex q_BadIndex C_BadIndex N_BadIndex bs_BadIndex [.ref C_DayError, .type "ValueError", .type "Exception", .type "BaseException", .type "object"] true sn_BadIndex sub_BadIndex ab_BadIndex col_BadIndex dd_BadIndex m0_BadIndex m1_BadIndex m2_BadIndex m3_BadIndex m5_BadIndex "ValueError.__new__"))
    (saC_BadIndex : PySem.W.findIn K (.ref C_BadIndex) "__setattr__" = some (some (.builtin "object.__setattr__")))
    (gaC_BadIndex : PySem.W.findIn K (.ref C_BadIndex) "__getattribute__" = some (some (.builtin "BaseException.__getattribute__")))
    (ggC_BadIndex : PySem.W.findIn K (.ref C_BadIndex) "__getattr__" = some none)
    (nbC_BadIndex : PySem.W.findIn K (.ref C_BadIndex) "index" = some none)
    (iC_BadIndex : PySem.W.findIn K (.ref C_BadIndex) "__init__" = some (some (.ref I_BadIndex)))
    (tiC_BadIndex : PySem.W.typeIn K (.ref I_BadIndex) = some (.type "function"))
    (lC_BadIndex : K.lookup I_BadIndex = some ⟨oc_BadIndex, od_BadIndex, .func (PySem.W.fnOf "__init__" "BadIndex.__init__" (PySem.ErrBadIndex.iA ⟨14, 17, 14, 21⟩ ⟨14, 23, 14, 28⟩) (PySem.ErrBadIndex.iB ⟨15, 8, 15, 12⟩ ⟨15, 8, 15, 18⟩ ⟨15, 21, 15, 26⟩ ⟨15, 8, 15, 26⟩) PySem.ErrBadIndex.iS .none .none dc_BadIndex pm_BadIndex an_BadIndex cd_BadIndex ct_BadIndex), sl_BadIndex⟩)
    (cC_BadIndex : PySem.W.codeIn K cd_BadIndex "BadIndex.__init__" = true)
    (kC_BadIndex : PySem.W.keepIn K (.ref C_BadIndex) = true)
    (eC_BadIndex : PySem.W.subIn K (.ref C_BadIndex) (.type "BaseException") = some true)
    (tyC_BadIndex : PySem.W.typeIn K (.ref C_BadIndex) = some (.type "type"))
    (hdC_BadIndex : PySem.W.hasDictIn K C_BadIndex = true)
    (icC_BadIndex : PySem.W.isClsIn K C_BadIndex = true)
    (aC_BadName : PySem.W.nsIn K mainGlobals "BadName" = some (some (.ref C_BadName)))
    (xC_BadName : K.lookup C_BadName = some (excClassObj nm_BadName q_BadName C_BadName N_BadName bs_BadName [.ref C_DayError, .type "ValueError", .type "Exception", .type "BaseException", .type "object"] true sn_BadName sub_BadName ab_BadName col_BadName dd_BadName m0_BadName m1_BadName m2_BadName m3_BadName m5_BadName "ValueError.__new__"))
    (saC_BadName : PySem.W.findIn K (.ref C_BadName) "__setattr__" = some (some (.builtin "object.__setattr__")))
    (gaC_BadName : PySem.W.findIn K (.ref C_BadName) "__getattribute__" = some (some (.builtin "BaseException.__getattribute__")))
    (ggC_BadName : PySem.W.findIn K (.ref C_BadName) "__getattr__" = some none)
    (nbC_BadName : PySem.W.findIn K (.ref C_BadName) "name" = some none)
    (iC_BadName : PySem.W.findIn K (.ref C_BadName) "__init__" = some (some (.ref I_BadName)))
    (tiC_BadName : PySem.W.typeIn K (.ref I_BadName) = some (.type "function"))
    (lC_BadName : K.lookup I_BadName = some ⟨oc_BadName, od_BadName, .func (PySem.W.fnOf "__init__" "BadName.__init__" (PySem.ErrBadName.iA ⟨18, 17, 18, 21⟩ ⟨18, 23, 18, 27⟩) (PySem.ErrBadName.iB ⟨19, 8, 19, 12⟩ ⟨19, 8, 19, 17⟩ ⟨19, 20, 19, 24⟩ ⟨19, 8, 19, 24⟩) PySem.ErrBadName.iS .none .none dc_BadName pm_BadName an_BadName cd_BadName ct_BadName), sl_BadName⟩)
    (cC_BadName : PySem.W.codeIn K cd_BadName "BadName.__init__" = true)
    (kC_BadName : PySem.W.keepIn K (.ref C_BadName) = true)
    (eC_BadName : PySem.W.subIn K (.ref C_BadName) (.type "BaseException") = some true)
    (tyC_BadName : PySem.W.typeIn K (.ref C_BadName) = some (.type "type"))
    (hdC_BadName : PySem.W.hasDictIn K C_BadName = true)
    (icC_BadName : PySem.W.isClsIn K C_BadName = true)
    (aC_BadKey : PySem.W.nsIn K mainGlobals "BadKey" = some (some (.ref C_BadKey)))
    (xC_BadKey : K.lookup C_BadKey = some (excClassObj nm_BadKey q_BadKey C_BadKey N_BadKey bs_BadKey [.ref C_DayError, .type "ValueError", .type "Exception", .type "BaseException", .type "object"] true sn_BadKey sub_BadKey ab_BadKey col_BadKey dd_BadKey m0_BadKey m1_BadKey m2_BadKey m3_BadKey m5_BadKey "ValueError.__new__"))
    (saC_BadKey : PySem.W.findIn K (.ref C_BadKey) "__setattr__" = some (some (.builtin "object.__setattr__")))
    (gaC_BadKey : PySem.W.findIn K (.ref C_BadKey) "__getattribute__" = some (some (.builtin "BaseException.__getattribute__")))
    (ggC_BadKey : PySem.W.findIn K (.ref C_BadKey) "__getattr__" = some none)
    (nbC_BadKey : PySem.W.findIn K (.ref C_BadKey) "key" = some none)
    (iC_BadKey : PySem.W.findIn K (.ref C_BadKey) "__init__" = some (some (.ref I_BadKey)))
    (tiC_BadKey : PySem.W.typeIn K (.ref I_BadKey) = some (.type "function"))
    (lC_BadKey : K.lookup I_BadKey = some ⟨oc_BadKey, od_BadKey, .func (PySem.W.fnOf "__init__" "BadKey.__init__" (PySem.ErrBadKey.iA ⟨22, 17, 22, 21⟩ ⟨22, 23, 22, 26⟩) (PySem.ErrBadKey.iB ⟨23, 8, 23, 12⟩ ⟨23, 8, 23, 16⟩ ⟨23, 19, 23, 22⟩ ⟨23, 8, 23, 22⟩) PySem.ErrBadKey.iS .none .none dc_BadKey pm_BadKey an_BadKey cd_BadKey ct_BadKey), sl_BadKey⟩)
    (cC_BadKey : PySem.W.codeIn K cd_BadKey "BadKey.__init__" = true)
    (kC_BadKey : PySem.W.keepIn K (.ref C_BadKey) = true)
    (eC_BadKey : PySem.W.subIn K (.ref C_BadKey) (.type "BaseException") = some true)
    (tyC_BadKey : PySem.W.typeIn K (.ref C_BadKey) = some (.type "type"))
    (hdC_BadKey : PySem.W.hasDictIn K C_BadKey = true)
    (icC_BadKey : PySem.W.isClsIn K C_BadKey = true)
    (aC_BadErrand : PySem.W.nsIn K mainGlobals "BadErrand" = some (some (.ref C_BadErrand)))
    (xC_BadErrand : K.lookup C_BadErrand = some (excClassObj nm_BadErrand q_BadErrand C_BadErrand N_BadErrand bs_BadErrand [.ref C_DayError, .type "ValueError", .type "Exception", .type "BaseException", .type "object"] true sn_BadErrand sub_BadErrand ab_BadErrand col_BadErrand dd_BadErrand m0_BadErrand m1_BadErrand m2_BadErrand m3_BadErrand m5_BadErrand "ValueError.__new__"))
    (saC_BadErrand : PySem.W.findIn K (.ref C_BadErrand) "__setattr__" = some (some (.builtin "object.__setattr__")))
    (gaC_BadErrand : PySem.W.findIn K (.ref C_BadErrand) "__getattribute__" = some (some (.builtin "BaseException.__getattribute__")))
    (ggC_BadErrand : PySem.W.findIn K (.ref C_BadErrand) "__getattr__" = some none)
    (nbC_BadErrand : PySem.W.findIn K (.ref C_BadErrand) "index" = some none)
    (iC_BadErrand : PySem.W.findIn K (.ref C_BadErrand) "__init__" = some (some (.ref I_BadErrand)))
    (tiC_BadErrand : PySem.W.typeIn K (.ref I_BadErrand) = some (.type "function"))
    (lC_BadErrand : K.lookup I_BadErrand = some ⟨oc_BadErrand, od_BadErrand, .func (PySem.W.fnOf "__init__" "BadErrand.__init__" (PySem.ErrBadErrand.iA ⟨26, 17, 26, 21⟩ ⟨26, 23, 26, 28⟩) (PySem.ErrBadErrand.iB ⟨27, 8, 27, 12⟩ ⟨27, 8, 27, 18⟩ ⟨27, 21, 27, 26⟩ ⟨27, 8, 27, 26⟩) PySem.ErrBadErrand.iS .none .none dc_BadErrand pm_BadErrand an_BadErrand cd_BadErrand ct_BadErrand), sl_BadErrand⟩)
    (cC_BadErrand : PySem.W.codeIn K cd_BadErrand "BadErrand.__init__" = true)
    (kC_BadErrand : PySem.W.keepIn K (.ref C_BadErrand) = true)
    (eC_BadErrand : PySem.W.subIn K (.ref C_BadErrand) (.type "BaseException") = some true)
    (tyC_BadErrand : PySem.W.typeIn K (.ref C_BadErrand) = some (.type "type"))
    (hdC_BadErrand : PySem.W.hasDictIn K C_BadErrand = true)
    (icC_BadErrand : PySem.W.isClsIn K C_BadErrand = true)
    (aC_BadOrder : PySem.W.nsIn K mainGlobals "BadOrder" = some (some (.ref C_BadOrder)))
    (xC_BadOrder : K.lookup C_BadOrder = some (excClassObj nm_BadOrder q_BadOrder C_BadOrder N_BadOrder bs_BadOrder [.ref C_DayError, .type "ValueError", .type "Exception", .type "BaseException", .type "object"] true sn_BadOrder sub_BadOrder ab_BadOrder col_BadOrder dd_BadOrder m0_BadOrder m1_BadOrder m2_BadOrder m3_BadOrder m5_BadOrder "ValueError.__new__"))
    (saC_BadOrder : PySem.W.findIn K (.ref C_BadOrder) "__setattr__" = some (some (.builtin "object.__setattr__")))
    (gaC_BadOrder : PySem.W.findIn K (.ref C_BadOrder) "__getattribute__" = some (some (.builtin "BaseException.__getattribute__")))
    (ggC_BadOrder : PySem.W.findIn K (.ref C_BadOrder) "__getattr__" = some none)
    (nbC_BadOrder : PySem.W.findIn K (.ref C_BadOrder) "name" = some none)
    (iC_BadOrder : PySem.W.findIn K (.ref C_BadOrder) "__init__" = some (some (.ref I_BadOrder)))
    (tiC_BadOrder : PySem.W.typeIn K (.ref I_BadOrder) = some (.type "function"))
    (lC_BadOrder : K.lookup I_BadOrder = some ⟨oc_BadOrder, od_BadOrder, .func (PySem.W.fnOf "__init__" "BadOrder.__init__" (PySem.ErrBadOrder.iA ⟨30, 17, 30, 21⟩ ⟨30, 23, 30, 27⟩) (PySem.ErrBadOrder.iB ⟨31, 8, 31, 12⟩ ⟨31, 8, 31, 17⟩ ⟨31, 20, 31, 24⟩ ⟨31, 8, 31, 24⟩) PySem.ErrBadOrder.iS .none .none dc_BadOrder pm_BadOrder an_BadOrder cd_BadOrder ct_BadOrder), sl_BadOrder⟩)
    (cC_BadOrder : PySem.W.codeIn K cd_BadOrder "BadOrder.__init__" = true)
    (kC_BadOrder : PySem.W.keepIn K (.ref C_BadOrder) = true)
    (eC_BadOrder : PySem.W.subIn K (.ref C_BadOrder) (.type "BaseException") = some true)
    (tyC_BadOrder : PySem.W.typeIn K (.ref C_BadOrder) = some (.type "type"))
    (hdC_BadOrder : PySem.W.hasDictIn K C_BadOrder = true)
    (icC_BadOrder : PySem.W.isClsIn K C_BadOrder = true)
    (aC_NoWay : PySem.W.nsIn K mainGlobals "NoWay" = some (some (.ref C_NoWay)))
    (xC_NoWay : K.lookup C_NoWay = some (excClassObj nm_NoWay q_NoWay C_NoWay N_NoWay bs_NoWay [.ref C_DayError, .type "ValueError", .type "Exception", .type "BaseException", .type "object"] true sn_NoWay sub_NoWay ab_NoWay col_NoWay dd_NoWay m0_NoWay m1_NoWay m2_NoWay m3_NoWay m5_NoWay "ValueError.__new__"))
    (saC_NoWay : PySem.W.findIn K (.ref C_NoWay) "__setattr__" = some (some (.builtin "object.__setattr__")))
    (gaC_NoWay : PySem.W.findIn K (.ref C_NoWay) "__getattribute__" = some (some (.builtin "BaseException.__getattribute__")))
    (ggC_NoWay : PySem.W.findIn K (.ref C_NoWay) "__getattr__" = some none)
    (nbC_NoWay : PySem.W.findIn K (.ref C_NoWay) "pair" = some none)
    (iC_NoWay : PySem.W.findIn K (.ref C_NoWay) "__init__" = some (some (.ref I_NoWay)))
    (tiC_NoWay : PySem.W.typeIn K (.ref I_NoWay) = some (.type "function"))
    (lC_NoWay : K.lookup I_NoWay = some ⟨oc_NoWay, od_NoWay, .func (PySem.W.fnOf "__init__" "NoWay.__init__" (PySem.ErrNoWay.iA ⟨34, 17, 34, 21⟩ ⟨34, 23, 34, 27⟩) (PySem.ErrNoWay.iB ⟨35, 8, 35, 12⟩ ⟨35, 8, 35, 17⟩ ⟨35, 20, 35, 24⟩ ⟨35, 8, 35, 24⟩) PySem.ErrNoWay.iS .none .none dc_NoWay pm_NoWay an_NoWay cd_NoWay ct_NoWay), sl_NoWay⟩)
    (cC_NoWay : PySem.W.codeIn K cd_NoWay "NoWay.__init__" = true)
    (kC_NoWay : PySem.W.keepIn K (.ref C_NoWay) = true)
    (eC_NoWay : PySem.W.subIn K (.ref C_NoWay) (.type "BaseException") = some true)
    (tyC_NoWay : PySem.W.typeIn K (.ref C_NoWay) = some (.type "type"))
    (hdC_NoWay : PySem.W.hasDictIn K C_NoWay = true)
    (icC_NoWay : PySem.W.isClsIn K C_NoWay = true)
    (su_BadPart_BadPart : PySem.W.subIn K (.ref C_BadPart) (.ref C_BadPart) = some true)
    (su_BadPart_BadNumber : PySem.W.subIn K (.ref C_BadPart) (.ref C_BadNumber) = some false)
    (su_BadPart_BadName : PySem.W.subIn K (.ref C_BadPart) (.ref C_BadName) = some false)
    (su_BadPart_BadKey : PySem.W.subIn K (.ref C_BadPart) (.ref C_BadKey) = some false)
    (su_BadPart_BadErrand : PySem.W.subIn K (.ref C_BadPart) (.ref C_BadErrand) = some false)
    (su_BadPart_BadIndex : PySem.W.subIn K (.ref C_BadPart) (.ref C_BadIndex) = some false)
    (su_BadPart_BadOrder : PySem.W.subIn K (.ref C_BadPart) (.ref C_BadOrder) = some false)
    (su_BadPart_NoWay : PySem.W.subIn K (.ref C_BadPart) (.ref C_NoWay) = some false)
    (su_BadNumber_BadPart : PySem.W.subIn K (.ref C_BadNumber) (.ref C_BadPart) = some false)
    (su_BadNumber_BadNumber : PySem.W.subIn K (.ref C_BadNumber) (.ref C_BadNumber) = some true)
    (su_BadNumber_BadName : PySem.W.subIn K (.ref C_BadNumber) (.ref C_BadName) = some false)
    (su_BadNumber_BadKey : PySem.W.subIn K (.ref C_BadNumber) (.ref C_BadKey) = some false)
    (su_BadNumber_BadErrand : PySem.W.subIn K (.ref C_BadNumber) (.ref C_BadErrand) = some false)
    (su_BadNumber_BadIndex : PySem.W.subIn K (.ref C_BadNumber) (.ref C_BadIndex) = some false)
    (su_BadNumber_BadOrder : PySem.W.subIn K (.ref C_BadNumber) (.ref C_BadOrder) = some false)
    (su_BadNumber_NoWay : PySem.W.subIn K (.ref C_BadNumber) (.ref C_NoWay) = some false)
    (su_BadName_BadPart : PySem.W.subIn K (.ref C_BadName) (.ref C_BadPart) = some false)
    (su_BadName_BadNumber : PySem.W.subIn K (.ref C_BadName) (.ref C_BadNumber) = some false)
    (su_BadName_BadName : PySem.W.subIn K (.ref C_BadName) (.ref C_BadName) = some true)
    (su_BadName_BadKey : PySem.W.subIn K (.ref C_BadName) (.ref C_BadKey) = some false)
    (su_BadName_BadErrand : PySem.W.subIn K (.ref C_BadName) (.ref C_BadErrand) = some false)
    (su_BadName_BadIndex : PySem.W.subIn K (.ref C_BadName) (.ref C_BadIndex) = some false)
    (su_BadName_BadOrder : PySem.W.subIn K (.ref C_BadName) (.ref C_BadOrder) = some false)
    (su_BadName_NoWay : PySem.W.subIn K (.ref C_BadName) (.ref C_NoWay) = some false)
    (su_BadKey_BadPart : PySem.W.subIn K (.ref C_BadKey) (.ref C_BadPart) = some false)
    (su_BadKey_BadNumber : PySem.W.subIn K (.ref C_BadKey) (.ref C_BadNumber) = some false)
    (su_BadKey_BadName : PySem.W.subIn K (.ref C_BadKey) (.ref C_BadName) = some false)
    (su_BadKey_BadKey : PySem.W.subIn K (.ref C_BadKey) (.ref C_BadKey) = some true)
    (su_BadKey_BadErrand : PySem.W.subIn K (.ref C_BadKey) (.ref C_BadErrand) = some false)
    (su_BadKey_BadIndex : PySem.W.subIn K (.ref C_BadKey) (.ref C_BadIndex) = some false)
    (su_BadKey_BadOrder : PySem.W.subIn K (.ref C_BadKey) (.ref C_BadOrder) = some false)
    (su_BadKey_NoWay : PySem.W.subIn K (.ref C_BadKey) (.ref C_NoWay) = some false)
    (su_BadErrand_BadPart : PySem.W.subIn K (.ref C_BadErrand) (.ref C_BadPart) = some false)
    (su_BadErrand_BadNumber : PySem.W.subIn K (.ref C_BadErrand) (.ref C_BadNumber) = some false)
    (su_BadErrand_BadName : PySem.W.subIn K (.ref C_BadErrand) (.ref C_BadName) = some false)
    (su_BadErrand_BadKey : PySem.W.subIn K (.ref C_BadErrand) (.ref C_BadKey) = some false)
    (su_BadErrand_BadErrand : PySem.W.subIn K (.ref C_BadErrand) (.ref C_BadErrand) = some true)
    (su_BadErrand_BadIndex : PySem.W.subIn K (.ref C_BadErrand) (.ref C_BadIndex) = some false)
    (su_BadErrand_BadOrder : PySem.W.subIn K (.ref C_BadErrand) (.ref C_BadOrder) = some false)
    (su_BadErrand_NoWay : PySem.W.subIn K (.ref C_BadErrand) (.ref C_NoWay) = some false)
    (su_BadIndex_BadPart : PySem.W.subIn K (.ref C_BadIndex) (.ref C_BadPart) = some false)
    (su_BadIndex_BadNumber : PySem.W.subIn K (.ref C_BadIndex) (.ref C_BadNumber) = some false)
    (su_BadIndex_BadName : PySem.W.subIn K (.ref C_BadIndex) (.ref C_BadName) = some false)
    (su_BadIndex_BadKey : PySem.W.subIn K (.ref C_BadIndex) (.ref C_BadKey) = some false)
    (su_BadIndex_BadErrand : PySem.W.subIn K (.ref C_BadIndex) (.ref C_BadErrand) = some false)
    (su_BadIndex_BadIndex : PySem.W.subIn K (.ref C_BadIndex) (.ref C_BadIndex) = some true)
    (su_BadIndex_BadOrder : PySem.W.subIn K (.ref C_BadIndex) (.ref C_BadOrder) = some false)
    (su_BadIndex_NoWay : PySem.W.subIn K (.ref C_BadIndex) (.ref C_NoWay) = some false)
    (su_BadOrder_BadPart : PySem.W.subIn K (.ref C_BadOrder) (.ref C_BadPart) = some false)
    (su_BadOrder_BadNumber : PySem.W.subIn K (.ref C_BadOrder) (.ref C_BadNumber) = some false)
    (su_BadOrder_BadName : PySem.W.subIn K (.ref C_BadOrder) (.ref C_BadName) = some false)
    (su_BadOrder_BadKey : PySem.W.subIn K (.ref C_BadOrder) (.ref C_BadKey) = some false)
    (su_BadOrder_BadErrand : PySem.W.subIn K (.ref C_BadOrder) (.ref C_BadErrand) = some false)
    (su_BadOrder_BadIndex : PySem.W.subIn K (.ref C_BadOrder) (.ref C_BadIndex) = some false)
    (su_BadOrder_BadOrder : PySem.W.subIn K (.ref C_BadOrder) (.ref C_BadOrder) = some true)
    (su_BadOrder_NoWay : PySem.W.subIn K (.ref C_BadOrder) (.ref C_NoWay) = some false)
    (su_NoWay_BadPart : PySem.W.subIn K (.ref C_NoWay) (.ref C_BadPart) = some false)
    (su_NoWay_BadNumber : PySem.W.subIn K (.ref C_NoWay) (.ref C_BadNumber) = some false)
    (su_NoWay_BadName : PySem.W.subIn K (.ref C_NoWay) (.ref C_BadName) = some false)
    (su_NoWay_BadKey : PySem.W.subIn K (.ref C_NoWay) (.ref C_BadKey) = some false)
    (su_NoWay_BadErrand : PySem.W.subIn K (.ref C_NoWay) (.ref C_BadErrand) = some false)
    (su_NoWay_BadIndex : PySem.W.subIn K (.ref C_NoWay) (.ref C_BadIndex) = some false)
    (su_NoWay_BadOrder : PySem.W.subIn K (.ref C_NoWay) (.ref C_BadOrder) = some false)
    (su_NoWay_NoWay : PySem.W.subIn K (.ref C_NoWay) (.ref C_NoWay) = some true)
    (nfn_Person : PySem.W.subIn K (.type "NoneType") (.ref C_Person) = some false)
    (nfb_Person : PySem.W.subIn K (.type "bool") (.ref C_Person) = some false)
    (nfi_Person : PySem.W.subIn K (.type "int") (.ref C_Person) = some false)
    (nfs_Person : PySem.W.subIn K (.type "str") (.ref C_Person) = some false)
    (nfl_Person : PySem.W.subIn K (.type "list") (.ref C_Person) = some false)
    (nft_Person : PySem.W.subIn K (.type "tuple") (.ref C_Person) = some false)
    (nfd_Person : PySem.W.subIn K (.type "dict") (.ref C_Person) = some false)
    (nfe_Person : PySem.W.findIn K (.ref C_Person) "__ne__" = some (some (.builtin "object.__ne__")))
    (Z_isinstance : PySem.W.nsIn K mainGlobals "isinstance" = some none)
    (Z_int : PySem.W.nsIn K mainGlobals "int" = some none)
    (Z_bool : PySem.W.nsIn K mainGlobals "bool" = some none)
    (Z_list : PySem.W.nsIn K mainGlobals "list" = some none)
    (Z_tuple : PySem.W.nsIn K mainGlobals "tuple" = some none)
    (Z_str : PySem.W.nsIn K mainGlobals "str" = some none)
    (Z_len : PySem.W.nsIn K mainGlobals "len" = some none)
    (Z_all : PySem.W.nsIn K mainGlobals "all" = some none)
    (Z_enumerate : PySem.W.nsIn K mainGlobals "enumerate" = some none)
    (Z_max : PySem.W.nsIn K mainGlobals "max" = some none)
    (Z_range : PySem.W.nsIn K mainGlobals "range" = some none)
    (Z_min : PySem.W.nsIn K mainGlobals "min" = some none)
    (Z_repr : PySem.W.nsIn K mainGlobals "repr" = some none)
    (N_LAST_MINUTE : PySem.W.nsIn K mainGlobals "LAST_MINUTE" = some (some (.int 9999 NLAST_MINUTE)))
    (N_LONGEST : PySem.W.nsIn K mainGlobals "LONGEST" = some (some (.int 600 NLONGEST)))
    (N_LETTERS : PySem.W.nsIn K mainGlobals "LETTERS" = some (some (.str "abcdefghijklmnopqrstuvwxyz" NLETTERS)))
    (S_int_Person : PySem.W.subIn K (.ref C_Person) (.type "int") = some false)
    (S_bool_Person : PySem.W.subIn K (.ref C_Person) (.type "bool") = some false)
    (S_list_Person : PySem.W.subIn K (.ref C_Person) (.type "list") = some false)
    (S_tuple_Person : PySem.W.subIn K (.ref C_Person) (.type "tuple") = some false)
    (S_str_Person : PySem.W.subIn K (.ref C_Person) (.type "str") = some false)
    (iC_Person : PySem.W.isClsIn K C_Person = true)
    (tC_Person : PySem.W.typeIn K (.ref C_Person) = some (.type "type"))
    (a0 : PySem.W.nsIn K mainGlobals "is_whole" = some (some (.ref f0)))
    (l0 : K.lookup f0 = some ⟨oc0, od0, .func (PySem.W.fnOf "is_whole" "is_whole" (defArgs (top 14)) (defBody (top 14)) (defScope (top 14)) .none kV0 dc0 pm0 an0 cd0 ct0), sl0⟩)
    (c0 : PySem.W.codeIn K cd0 "is_whole" = true)
    (k0 : PySem.W.keepIn K (.ref f0) = true)
    (a1 : PySem.W.nsIn K mainGlobals "is_between" = some (some (.ref f1)))
    (l1 : K.lookup f1 = some ⟨oc1, od1, .func (PySem.W.fnOf "is_between" "is_between" (defArgs (top 15)) (defBody (top 15)) (defScope (top 15)) .none kV1 dc1 pm1 an1 cd1 ct1), sl1⟩)
    (c1 : PySem.W.codeIn K cd1 "is_between" = true)
    (k1 : PySem.W.keepIn K (.ref f1) = true)
    (a2 : PySem.W.nsIn K mainGlobals "is_told_minute" = some (some (.ref f2)))
    (l2 : K.lookup f2 = some ⟨oc2, od2, .func (PySem.W.fnOf "is_told_minute" "is_told_minute" (defArgs (top 16)) (defBody (top 16)) (defScope (top 16)) .none kV2 dc2 pm2 an2 cd2 ct2), sl2⟩)
    (c2 : PySem.W.codeIn K cd2 "is_told_minute" = true)
    (k2 : PySem.W.keepIn K (.ref f2) = true)
    (a3 : PySem.W.nsIn K mainGlobals "is_told_length" = some (some (.ref f3)))
    (l3 : K.lookup f3 = some ⟨oc3, od3, .func (PySem.W.fnOf "is_told_length" "is_told_length" (defArgs (top 17)) (defBody (top 17)) (defScope (top 17)) .none kV3 dc3 pm3 an3 cd3 ct3), sl3⟩)
    (c3 : PySem.W.codeIn K cd3 "is_told_length" = true)
    (k3 : PySem.W.keepIn K (.ref f3) = true)
    (a4 : PySem.W.nsIn K mainGlobals "is_listed" = some (some (.ref f4)))
    (l4 : K.lookup f4 = some ⟨oc4, od4, .func (PySem.W.fnOf "is_listed" "is_listed" (defArgs (top 18)) (defBody (top 18)) (defScope (top 18)) .none kV4 dc4 pm4 an4 cd4 ct4), sl4⟩)
    (c4 : PySem.W.codeIn K cd4 "is_listed" = true)
    (k4 : PySem.W.keepIn K (.ref f4) = true)
    (a5 : PySem.W.nsIn K mainGlobals "is_name" = some (some (.ref f5)))
    (l5 : K.lookup f5 = some ⟨oc5, od5, .func (PySem.W.fnOf "is_name" "is_name" (defArgs (top 19)) (defBody (top 19)) (defScope (top 19)) .none kV5 dc5 pm5 an5 cd5 ct5), sl5⟩)
    (c5 : PySem.W.codeIn K cd5 "is_name" = true)
    (k5 : PySem.W.keepIn K (.ref f5) = true)
    (a6 : PySem.W.nsIn K mainGlobals "need_name_and_place" = some (some (.ref f6)))
    (l6 : K.lookup f6 = some ⟨oc6, od6, .func (PySem.W.fnOf "need_name_and_place" "need_name_and_place" (defArgs (top 21)) (defBody (top 21)) (defScope (top 21)) .none kV6 dc6 pm6 an6 cd6 ct6), sl6⟩)
    (c6 : PySem.W.codeIn K cd6 "need_name_and_place" = true)
    (k6 : PySem.W.keepIn K (.ref f6) = true)
    (a7 : PySem.W.nsIn K mainGlobals "is_errand" = some (some (.ref f7)))
    (l7 : K.lookup f7 = some ⟨oc7, od7, .func (PySem.W.fnOf "is_errand" "is_errand" (defArgs (top 23)) (defBody (top 23)) (defScope (top 23)) .none kV7 dc7 pm7 an7 cd7 ct7), sl7⟩)
    (c7 : PySem.W.codeIn K cd7 "is_errand" = true)
    (k7 : PySem.W.keepIn K (.ref f7) = true)
    (a8 : PySem.W.nsIn K mainGlobals "need_errands" = some (some (.ref f8)))
    (l8 : K.lookup f8 = some ⟨oc8, od8, .func (PySem.W.fnOf "need_errands" "need_errands" (defArgs (top 24)) (defBody (top 24)) (defScope (top 24)) .none kV8 dc8 pm8 an8 cd8 ct8), sl8⟩)
    (c8 : PySem.W.codeIn K cd8 "need_errands" = true)
    (k8 : PySem.W.keepIn K (.ref f8) = true)
    (a9 : PySem.W.findIn K (.ref C_Person) "__init__" = some (some (.ref f9)))
    (i9 : PySem.W.isFn K (.ref f9) = true)
    (l9 : K.lookup f9 = some ⟨oc9, od9, .func (PySem.W.fnOf "__init__" "Person.__init__" (defArgs (inTop 25 0)) (defBody (inTop 25 0)) (defScope (inTop 25 0)) (.ref t9) kV9 dc9 pm9 an9 cd9 ct9), sl9⟩)
    (c9 : PySem.W.codeIn K cd9 "Person.__init__" = true)
    (k9 : PySem.W.keepIn K (.ref f9) = true)
    (t9_ : K.lookup t9 = some ⟨tc9, td9, .seq [(.ref td9_0)].toArray tn9, ts9⟩)
    (a10 : PySem.W.findIn K (.ref C_Person) "__eq__" = some (some (.ref f10)))
    (i10 : PySem.W.isFn K (.ref f10) = true)
    (l10 : K.lookup f10 = some ⟨oc10, od10, .func (PySem.W.fnOf "__eq__" "Person.__eq__" (defArgs (inTop 25 1)) (defBody (inTop 25 1)) (defScope (inTop 25 1)) .none kV10 dc10 pm10 an10 cd10 ct10), sl10⟩)
    (c10 : PySem.W.codeIn K cd10 "Person.__eq__" = true)
    (k10 : PySem.W.keepIn K (.ref f10) = true)
    (a11 : PySem.W.findIn K (.ref C_Person) "own_keys" = some (some (.ref f11)))
    (i11 : PySem.W.isFn K (.ref f11) = true)
    (l11 : K.lookup f11 = some ⟨oc11, od11, .func (PySem.W.fnOf "own_keys" "Person.own_keys" (defArgs (inTop 25 2)) (defBody (inTop 25 2)) (defScope (inTop 25 2)) .none kV11 dc11 pm11 an11 cd11 ct11), sl11⟩)
    (c11 : PySem.W.codeIn K cd11 "Person.own_keys" = true)
    (k11 : PySem.W.keepIn K (.ref f11) = true)
    (a12 : PySem.W.findIn K (.ref C_Person) "leaving_at" = some (some (.ref f12)))
    (i12 : PySem.W.isFn K (.ref f12) = true)
    (l12 : K.lookup f12 = some ⟨oc12, od12, .func (PySem.W.fnOf "leaving_at" "Person.leaving_at" (defArgs (inTop 25 3)) (defBody (inTop 25 3)) (defScope (inTop 25 3)) .none kV12 dc12 pm12 an12 cd12 ct12), sl12⟩)
    (c12 : PySem.W.codeIn K cd12 "Person.leaving_at" = true)
    (k12 : PySem.W.keepIn K (.ref f12) = true)
    (a13 : PySem.W.findIn K (.ref C_Person) "with_errand" = some (some (.ref f13)))
    (i13 : PySem.W.isFn K (.ref f13) = true)
    (l13 : K.lookup f13 = some ⟨oc13, od13, .func (PySem.W.fnOf "with_errand" "Person.with_errand" (defArgs (inTop 25 4)) (defBody (inTop 25 4)) (defScope (inTop 25 4)) .none kV13 dc13 pm13 an13 cd13 ct13), sl13⟩)
    (c13 : PySem.W.codeIn K cd13 "Person.with_errand" = true)
    (k13 : PySem.W.keepIn K (.ref f13) = true)
    (a14 : PySem.W.nsIn K mainGlobals "_law_pool" = some (some (.ref f14)))
    (l14 : K.lookup f14 = some ⟨oc14, od14, .func (PySem.W.fnOf "_law_pool" "_law_pool" (defArgs (top 27)) (defBody (top 27)) (defScope (top 27)) .none kV14 dc14 pm14 an14 cd14 ct14), sl14⟩)
    (c14 : PySem.W.codeIn K cd14 "_law_pool" = true)
    (k14 : PySem.W.keepIn K (.ref f14) = true)
    (a15 : PySem.W.nsIn K mainGlobals "_law_take" = some (some (.ref f15)))
    (l15 : K.lookup f15 = some ⟨oc15, od15, .func (PySem.W.fnOf "_law_take" "_law_take" (defArgs (top 28)) (defBody (top 28)) (defScope (top 28)) .none kV15 dc15 pm15 an15 cd15 ct15), sl15⟩)
    (c15 : PySem.W.codeIn K cd15 "_law_take" = true)
    (k15 : PySem.W.keepIn K (.ref f15) = true)
    (a16 : PySem.W.nsIn K mainGlobals "_law_one" = some (some (.ref f16)))
    (l16 : K.lookup f16 = some ⟨oc16, od16, .func (PySem.W.fnOf "_law_one" "_law_one" (defArgs (top 29)) (defBody (top 29)) (defScope (top 29)) .none kV16 dc16 pm16 an16 cd16 ct16), sl16⟩)
    (c16 : PySem.W.codeIn K cd16 "_law_one" = true)
    (k16 : PySem.W.keepIn K (.ref f16) = true)
    (a17 : PySem.W.nsIn K mainGlobals "_law_rounds" = some (some (.ref f17)))
    (l17 : K.lookup f17 = some ⟨oc17, od17, .func (PySem.W.fnOf "_law_rounds" "_law_rounds" (defArgs (top 30)) (defBody (top 30)) (defScope (top 30)) .none kV17 dc17 pm17 an17 cd17 ct17), sl17⟩)
    (c17 : PySem.W.codeIn K cd17 "_law_rounds" = true)
    (k17 : PySem.W.keepIn K (.ref f17) = true)
    (a18 : PySem.W.nsIn K mainGlobals "_law_drawn_errands" = some (some (.ref f18)))
    (l18 : K.lookup f18 = some ⟨oc18, od18, .func (PySem.W.fnOf "_law_drawn_errands" "_law_drawn_errands" (defArgs (top 32)) (defBody (top 32)) (defScope (top 32)) .none kV18 dc18 pm18 an18 cd18 ct18), sl18⟩)
    (c18 : PySem.W.codeIn K cd18 "_law_drawn_errands" = true)
    (k18 : PySem.W.keepIn K (.ref f18) = true)
    (a19 : PySem.W.nsIn K mainGlobals "_law_wrong_errands" = some (some (.ref f19)))
    (l19 : K.lookup f19 = some ⟨oc19, od19, .func (PySem.W.fnOf "_law_wrong_errands" "_law_wrong_errands" (defArgs (top 33)) (defBody (top 33)) (defScope (top 33)) .none kV19 dc19 pm19 an19 cd19 ct19), sl19⟩)
    (c19 : PySem.W.codeIn K cd19 "_law_wrong_errands" = true)
    (k19 : PySem.W.keepIn K (.ref f19) = true)
    (a20 : PySem.W.nsIn K mainGlobals "_law_refused" = some (some (.ref f20)))
    (l20 : K.lookup f20 = some ⟨oc20, od20, .func (PySem.W.fnOf "_law_refused" "_law_refused" (defArgs (top 34)) (defBody (top 34)) (defScope (top 34)) .none kV20 dc20 pm20 an20 (.ref cc20) ct20), sl20⟩)
    (c20 : PySem.W.codeIn K (.ref cc20) "_law_refused" = true)
    (k20 : PySem.W.keepIn K (.ref f20) = true)
    (xc20 : K.lookup cc20 = some ⟨xo20, xd20, .fields xv20, xs20⟩)
    (xp20 : (xv20[11]? : Option Value) = some (.ref P20))
    (n20 : K.lookup P20 = none)
    (a21 : PySem.W.nsIn K mainGlobals "_law_changed_right" = some (some (.ref f21)))
    (l21 : K.lookup f21 = some ⟨oc21, od21, .func (PySem.W.fnOf "_law_changed_right" "_law_changed_right" (defArgs (top 35)) (defBody (top 35)) (defScope (top 35)) .none kV21 dc21 pm21 an21 (.ref cc21) ct21), sl21⟩)
    (c21 : PySem.W.codeIn K (.ref cc21) "_law_changed_right" = true)
    (k21 : PySem.W.keepIn K (.ref f21) = true)
    (xc21 : K.lookup cc21 = some ⟨xo21, xd21, .fields xv21, xs21⟩)
    (xp21 : (xv21[11]? : Option Value) = some (.ref P21))
    (n21 : K.lookup P21 = none)
    (d20_21 : P20 ≠ P21)
    (a22 : PySem.W.nsIn K mainGlobals "law" = some (some (.ref f22)))
    (l22 : K.lookup f22 = some ⟨oc22, od22, .func (PySem.W.fnOf "law" "law" (defArgs (top 36)) (defBody (top 36)) (defScope (top 36)) .none kV22 dc22 pm22 an22 cd22 ct22), sl22⟩)
    (c22 : PySem.W.codeIn K cd22 "law" = true)
    (k22 : PySem.W.keepIn K (.ref f22) = true)
    (aH0 : PySem.W.nsIn K mainGlobals "_law_heard" = some (some (.ref fH0)))
    (lH0 : K.lookup fH0 = some ⟨ocH0, odH0, .func (PySem.W.fnOf "_law_heard" "_law_heard" (defArgs (top 31)) (defBody (top 31)) (defScope (top 31)) .none kVH0 dcH0 pmH0 anH0 cdH0 ctH0), slH0⟩)
    (cH0 : PySem.W.codeIn K cdH0 "_law_heard" = true)
    (kH0 : PySem.W.keepIn K (.ref fH0) = true)
    (math : ∀ [TabsW] [GdW] (ns : List Int), ns.length ≤ 63 → ∃ out, semB g_law 8 none b_law [.lst (ns.map .int)] = .ok (.bl true) out)
    : @LawG ⟨True⟩ l w K (L2.CX l.prog w) 12 63 "_law_script" mg fa h := by
  letI I1 : TabsW := ⟨[(P20, (PySem.Str.ofString "_law_refused" ++ PySem.Str.ofString ".<locals>." ++ "<lambda>")), (P21, (PySem.Str.ofString "_law_changed_right" ++ PySem.Str.ofString ".<locals>." ++ "<lambda>"))]⟩
  letI I0 : GdW := ⟨True⟩
  have e := hfa.symm.trans (PySem.W.mg_of X G a22)
  cases e
  have g_Person := PySem.W.mg_of X G aC_Person
  have h_Person := clsAt_of aC_Person
  subst h_Person
  have g_BadPart := PySem.W.mg_of X G aC_BadPart
  have h_BadPart := clsAt_of aC_BadPart
  subst h_BadPart
  have g_BadNumber := PySem.W.mg_of X G aC_BadNumber
  have h_BadNumber := clsAt_of aC_BadNumber
  subst h_BadNumber
  have g_BadIndex := PySem.W.mg_of X G aC_BadIndex
  have h_BadIndex := clsAt_of aC_BadIndex
  subst h_BadIndex
  have g_BadName := PySem.W.mg_of X G aC_BadName
  have h_BadName := clsAt_of aC_BadName
  subst h_BadName
  have g_BadKey := PySem.W.mg_of X G aC_BadKey
  have h_BadKey := clsAt_of aC_BadKey
  subst h_BadKey
  have g_BadErrand := PySem.W.mg_of X G aC_BadErrand
  have h_BadErrand := clsAt_of aC_BadErrand
  subst h_BadErrand
  have g_BadOrder := PySem.W.mg_of X G aC_BadOrder
  have h_BadOrder := clsAt_of aC_BadOrder
  subst h_BadOrder
  have g_NoWay := PySem.W.mg_of X G aC_NoWay
  have h_NoWay := clsAt_of aC_NoWay
  subst h_NoWay
  have T_BadPart : PySem.ErrBadPart.LowTxt K mg (clsAt K "BadPart") I_BadPart := { gC := g_BadPart, cls := ⟨_, _, _, _, _, _, _, _, _, _, _, _, _, _, _, xC_BadPart, by rfl⟩, sa := saC_BadPart, ga := gaC_BadPart, gg := ggC_BadPart, noN := nbC_BadPart, iC := iC_BadPart, tC := tiC_BadPart, kC := kC_BadPart, exC := eC_BadPart, tyC := tyC_BadPart, hdC := hdC_BadPart, te := exm_cc eC_BadPart icC_BadPart tyC_BadPart su_BadPart_BadPart, fn := ⟨_, _, _, _, _, _, _, _, _, _, _, _, _, _, lC_BadPart, cC_BadPart⟩ }
  have T_BadNumber : PySem.ErrBadNumber.LowTxt K mg (clsAt K "BadNumber") I_BadNumber := { gC := g_BadNumber, cls := ⟨_, _, _, _, _, _, _, _, _, _, _, _, _, _, _, xC_BadNumber, by rfl⟩, sa := saC_BadNumber, ga := gaC_BadNumber, gg := ggC_BadNumber, noN := nbC_BadNumber, iC := iC_BadNumber, tC := tiC_BadNumber, kC := kC_BadNumber, exC := eC_BadNumber, tyC := tyC_BadNumber, hdC := hdC_BadNumber, te := exm_cc eC_BadNumber icC_BadNumber tyC_BadNumber su_BadNumber_BadNumber, fn := ⟨_, _, _, _, _, _, _, _, _, _, _, _, _, _, lC_BadNumber, cC_BadNumber⟩ }
  have T_BadIndex : PySem.ErrBadIndex.LowTxt K mg (clsAt K "BadIndex") I_BadIndex := { gC := g_BadIndex, cls := ⟨_, _, _, _, _, _, _, _, _, _, _, _, _, _, _, xC_BadIndex, by rfl⟩, sa := saC_BadIndex, ga := gaC_BadIndex, gg := ggC_BadIndex, noN := nbC_BadIndex, iC := iC_BadIndex, tC := tiC_BadIndex, kC := kC_BadIndex, exC := eC_BadIndex, tyC := tyC_BadIndex, hdC := hdC_BadIndex, te := exm_cc eC_BadIndex icC_BadIndex tyC_BadIndex su_BadIndex_BadIndex, fn := ⟨_, _, _, _, _, _, _, _, _, _, _, _, _, _, lC_BadIndex, cC_BadIndex⟩ }
  have T_BadName : PySem.ErrBadName.LowTxt K mg (clsAt K "BadName") I_BadName := { gC := g_BadName, cls := ⟨_, _, _, _, _, _, _, _, _, _, _, _, _, _, _, xC_BadName, by rfl⟩, sa := saC_BadName, ga := gaC_BadName, gg := ggC_BadName, noN := nbC_BadName, iC := iC_BadName, tC := tiC_BadName, kC := kC_BadName, exC := eC_BadName, tyC := tyC_BadName, hdC := hdC_BadName, te := exm_cc eC_BadName icC_BadName tyC_BadName su_BadName_BadName, fn := ⟨_, _, _, _, _, _, _, _, _, _, _, _, _, _, lC_BadName, cC_BadName⟩ }
  have T_BadKey : PySem.ErrBadKey.LowTxt K mg (clsAt K "BadKey") I_BadKey := { gC := g_BadKey, cls := ⟨_, _, _, _, _, _, _, _, _, _, _, _, _, _, _, xC_BadKey, by rfl⟩, sa := saC_BadKey, ga := gaC_BadKey, gg := ggC_BadKey, noN := nbC_BadKey, iC := iC_BadKey, tC := tiC_BadKey, kC := kC_BadKey, exC := eC_BadKey, tyC := tyC_BadKey, hdC := hdC_BadKey, te := exm_cc eC_BadKey icC_BadKey tyC_BadKey su_BadKey_BadKey, fn := ⟨_, _, _, _, _, _, _, _, _, _, _, _, _, _, lC_BadKey, cC_BadKey⟩ }
  have T_BadErrand : PySem.ErrBadErrand.LowTxt K mg (clsAt K "BadErrand") I_BadErrand := { gC := g_BadErrand, cls := ⟨_, _, _, _, _, _, _, _, _, _, _, _, _, _, _, xC_BadErrand, by rfl⟩, sa := saC_BadErrand, ga := gaC_BadErrand, gg := ggC_BadErrand, noN := nbC_BadErrand, iC := iC_BadErrand, tC := tiC_BadErrand, kC := kC_BadErrand, exC := eC_BadErrand, tyC := tyC_BadErrand, hdC := hdC_BadErrand, te := exm_cc eC_BadErrand icC_BadErrand tyC_BadErrand su_BadErrand_BadErrand, fn := ⟨_, _, _, _, _, _, _, _, _, _, _, _, _, _, lC_BadErrand, cC_BadErrand⟩ }
  have T_BadOrder : PySem.ErrBadOrder.LowTxt K mg (clsAt K "BadOrder") I_BadOrder := { gC := g_BadOrder, cls := ⟨_, _, _, _, _, _, _, _, _, _, _, _, _, _, _, xC_BadOrder, by rfl⟩, sa := saC_BadOrder, ga := gaC_BadOrder, gg := ggC_BadOrder, noN := nbC_BadOrder, iC := iC_BadOrder, tC := tiC_BadOrder, kC := kC_BadOrder, exC := eC_BadOrder, tyC := tyC_BadOrder, hdC := hdC_BadOrder, te := exm_cc eC_BadOrder icC_BadOrder tyC_BadOrder su_BadOrder_BadOrder, fn := ⟨_, _, _, _, _, _, _, _, _, _, _, _, _, _, lC_BadOrder, cC_BadOrder⟩ }
  have T_NoWay : PySem.ErrNoWay.LowTxt K mg (clsAt K "NoWay") I_NoWay := { gC := g_NoWay, cls := ⟨_, _, _, _, _, _, _, _, _, _, _, _, _, _, _, xC_NoWay, by rfl⟩, sa := saC_NoWay, ga := gaC_NoWay, gg := ggC_NoWay, noN := nbC_NoWay, iC := iC_NoWay, tC := tiC_NoWay, kC := kC_NoWay, exC := eC_NoWay, tyC := tyC_NoWay, hdC := hdC_NoWay, te := exm_cc eC_NoWay icC_NoWay tyC_NoWay su_NoWay_NoWay, fn := ⟨_, _, _, _, _, _, _, _, _, _, _, _, _, _, lC_NoWay, cC_NoWay⟩ }
  have ex_BadPart_BadPart : PySem.W.exmOne K (.ref (clsAt K "BadPart")) (.ref (clsAt K "BadPart")) = some (decide (("BadPart" : Str) = "BadPart")) := (exm_cc eC_BadPart icC_BadPart tyC_BadPart su_BadPart_BadPart).trans (by decide +kernel)
  have ex_BadPart_BadNumber : PySem.W.exmOne K (.ref (clsAt K "BadPart")) (.ref (clsAt K "BadNumber")) = some (decide (("BadPart" : Str) = "BadNumber")) := (exm_cc eC_BadNumber icC_BadNumber tyC_BadNumber su_BadPart_BadNumber).trans (by decide +kernel)
  have ex_BadPart_BadName : PySem.W.exmOne K (.ref (clsAt K "BadPart")) (.ref (clsAt K "BadName")) = some (decide (("BadPart" : Str) = "BadName")) := (exm_cc eC_BadName icC_BadName tyC_BadName su_BadPart_BadName).trans (by decide +kernel)
  have ex_BadPart_BadKey : PySem.W.exmOne K (.ref (clsAt K "BadPart")) (.ref (clsAt K "BadKey")) = some (decide (("BadPart" : Str) = "BadKey")) := (exm_cc eC_BadKey icC_BadKey tyC_BadKey su_BadPart_BadKey).trans (by decide +kernel)
  have ex_BadPart_BadErrand : PySem.W.exmOne K (.ref (clsAt K "BadPart")) (.ref (clsAt K "BadErrand")) = some (decide (("BadPart" : Str) = "BadErrand")) := (exm_cc eC_BadErrand icC_BadErrand tyC_BadErrand su_BadPart_BadErrand).trans (by decide +kernel)
  have ex_BadPart_BadIndex : PySem.W.exmOne K (.ref (clsAt K "BadPart")) (.ref (clsAt K "BadIndex")) = some (decide (("BadPart" : Str) = "BadIndex")) := (exm_cc eC_BadIndex icC_BadIndex tyC_BadIndex su_BadPart_BadIndex).trans (by decide +kernel)
  have ex_BadPart_BadOrder : PySem.W.exmOne K (.ref (clsAt K "BadPart")) (.ref (clsAt K "BadOrder")) = some (decide (("BadPart" : Str) = "BadOrder")) := (exm_cc eC_BadOrder icC_BadOrder tyC_BadOrder su_BadPart_BadOrder).trans (by decide +kernel)
  have ex_BadPart_NoWay : PySem.W.exmOne K (.ref (clsAt K "BadPart")) (.ref (clsAt K "NoWay")) = some (decide (("BadPart" : Str) = "NoWay")) := (exm_cc eC_NoWay icC_NoWay tyC_NoWay su_BadPart_NoWay).trans (by decide +kernel)
  have ex_BadNumber_BadPart : PySem.W.exmOne K (.ref (clsAt K "BadNumber")) (.ref (clsAt K "BadPart")) = some (decide (("BadNumber" : Str) = "BadPart")) := (exm_cc eC_BadPart icC_BadPart tyC_BadPart su_BadNumber_BadPart).trans (by decide +kernel)
  have ex_BadNumber_BadNumber : PySem.W.exmOne K (.ref (clsAt K "BadNumber")) (.ref (clsAt K "BadNumber")) = some (decide (("BadNumber" : Str) = "BadNumber")) := (exm_cc eC_BadNumber icC_BadNumber tyC_BadNumber su_BadNumber_BadNumber).trans (by decide +kernel)
  have ex_BadNumber_BadName : PySem.W.exmOne K (.ref (clsAt K "BadNumber")) (.ref (clsAt K "BadName")) = some (decide (("BadNumber" : Str) = "BadName")) := (exm_cc eC_BadName icC_BadName tyC_BadName su_BadNumber_BadName).trans (by decide +kernel)
  have ex_BadNumber_BadKey : PySem.W.exmOne K (.ref (clsAt K "BadNumber")) (.ref (clsAt K "BadKey")) = some (decide (("BadNumber" : Str) = "BadKey")) := (exm_cc eC_BadKey icC_BadKey tyC_BadKey su_BadNumber_BadKey).trans (by decide +kernel)
  have ex_BadNumber_BadErrand : PySem.W.exmOne K (.ref (clsAt K "BadNumber")) (.ref (clsAt K "BadErrand")) = some (decide (("BadNumber" : Str) = "BadErrand")) := (exm_cc eC_BadErrand icC_BadErrand tyC_BadErrand su_BadNumber_BadErrand).trans (by decide +kernel)
  have ex_BadNumber_BadIndex : PySem.W.exmOne K (.ref (clsAt K "BadNumber")) (.ref (clsAt K "BadIndex")) = some (decide (("BadNumber" : Str) = "BadIndex")) := (exm_cc eC_BadIndex icC_BadIndex tyC_BadIndex su_BadNumber_BadIndex).trans (by decide +kernel)
  have ex_BadNumber_BadOrder : PySem.W.exmOne K (.ref (clsAt K "BadNumber")) (.ref (clsAt K "BadOrder")) = some (decide (("BadNumber" : Str) = "BadOrder")) := (exm_cc eC_BadOrder icC_BadOrder tyC_BadOrder su_BadNumber_BadOrder).trans (by decide +kernel)
  have ex_BadNumber_NoWay : PySem.W.exmOne K (.ref (clsAt K "BadNumber")) (.ref (clsAt K "NoWay")) = some (decide (("BadNumber" : Str) = "NoWay")) := (exm_cc eC_NoWay icC_NoWay tyC_NoWay su_BadNumber_NoWay).trans (by decide +kernel)
  have ex_BadName_BadPart : PySem.W.exmOne K (.ref (clsAt K "BadName")) (.ref (clsAt K "BadPart")) = some (decide (("BadName" : Str) = "BadPart")) := (exm_cc eC_BadPart icC_BadPart tyC_BadPart su_BadName_BadPart).trans (by decide +kernel)
  have ex_BadName_BadNumber : PySem.W.exmOne K (.ref (clsAt K "BadName")) (.ref (clsAt K "BadNumber")) = some (decide (("BadName" : Str) = "BadNumber")) := (exm_cc eC_BadNumber icC_BadNumber tyC_BadNumber su_BadName_BadNumber).trans (by decide +kernel)
  have ex_BadName_BadName : PySem.W.exmOne K (.ref (clsAt K "BadName")) (.ref (clsAt K "BadName")) = some (decide (("BadName" : Str) = "BadName")) := (exm_cc eC_BadName icC_BadName tyC_BadName su_BadName_BadName).trans (by decide +kernel)
  have ex_BadName_BadKey : PySem.W.exmOne K (.ref (clsAt K "BadName")) (.ref (clsAt K "BadKey")) = some (decide (("BadName" : Str) = "BadKey")) := (exm_cc eC_BadKey icC_BadKey tyC_BadKey su_BadName_BadKey).trans (by decide +kernel)
  have ex_BadName_BadErrand : PySem.W.exmOne K (.ref (clsAt K "BadName")) (.ref (clsAt K "BadErrand")) = some (decide (("BadName" : Str) = "BadErrand")) := (exm_cc eC_BadErrand icC_BadErrand tyC_BadErrand su_BadName_BadErrand).trans (by decide +kernel)
  have ex_BadName_BadIndex : PySem.W.exmOne K (.ref (clsAt K "BadName")) (.ref (clsAt K "BadIndex")) = some (decide (("BadName" : Str) = "BadIndex")) := (exm_cc eC_BadIndex icC_BadIndex tyC_BadIndex su_BadName_BadIndex).trans (by decide +kernel)
  have ex_BadName_BadOrder : PySem.W.exmOne K (.ref (clsAt K "BadName")) (.ref (clsAt K "BadOrder")) = some (decide (("BadName" : Str) = "BadOrder")) := (exm_cc eC_BadOrder icC_BadOrder tyC_BadOrder su_BadName_BadOrder).trans (by decide +kernel)
  have ex_BadName_NoWay : PySem.W.exmOne K (.ref (clsAt K "BadName")) (.ref (clsAt K "NoWay")) = some (decide (("BadName" : Str) = "NoWay")) := (exm_cc eC_NoWay icC_NoWay tyC_NoWay su_BadName_NoWay).trans (by decide +kernel)
  have ex_BadKey_BadPart : PySem.W.exmOne K (.ref (clsAt K "BadKey")) (.ref (clsAt K "BadPart")) = some (decide (("BadKey" : Str) = "BadPart")) := (exm_cc eC_BadPart icC_BadPart tyC_BadPart su_BadKey_BadPart).trans (by decide +kernel)
  have ex_BadKey_BadNumber : PySem.W.exmOne K (.ref (clsAt K "BadKey")) (.ref (clsAt K "BadNumber")) = some (decide (("BadKey" : Str) = "BadNumber")) := (exm_cc eC_BadNumber icC_BadNumber tyC_BadNumber su_BadKey_BadNumber).trans (by decide +kernel)
  have ex_BadKey_BadName : PySem.W.exmOne K (.ref (clsAt K "BadKey")) (.ref (clsAt K "BadName")) = some (decide (("BadKey" : Str) = "BadName")) := (exm_cc eC_BadName icC_BadName tyC_BadName su_BadKey_BadName).trans (by decide +kernel)
  have ex_BadKey_BadKey : PySem.W.exmOne K (.ref (clsAt K "BadKey")) (.ref (clsAt K "BadKey")) = some (decide (("BadKey" : Str) = "BadKey")) := (exm_cc eC_BadKey icC_BadKey tyC_BadKey su_BadKey_BadKey).trans (by decide +kernel)
  have ex_BadKey_BadErrand : PySem.W.exmOne K (.ref (clsAt K "BadKey")) (.ref (clsAt K "BadErrand")) = some (decide (("BadKey" : Str) = "BadErrand")) := (exm_cc eC_BadErrand icC_BadErrand tyC_BadErrand su_BadKey_BadErrand).trans (by decide +kernel)
  have ex_BadKey_BadIndex : PySem.W.exmOne K (.ref (clsAt K "BadKey")) (.ref (clsAt K "BadIndex")) = some (decide (("BadKey" : Str) = "BadIndex")) := (exm_cc eC_BadIndex icC_BadIndex tyC_BadIndex su_BadKey_BadIndex).trans (by decide +kernel)
  have ex_BadKey_BadOrder : PySem.W.exmOne K (.ref (clsAt K "BadKey")) (.ref (clsAt K "BadOrder")) = some (decide (("BadKey" : Str) = "BadOrder")) := (exm_cc eC_BadOrder icC_BadOrder tyC_BadOrder su_BadKey_BadOrder).trans (by decide +kernel)
  have ex_BadKey_NoWay : PySem.W.exmOne K (.ref (clsAt K "BadKey")) (.ref (clsAt K "NoWay")) = some (decide (("BadKey" : Str) = "NoWay")) := (exm_cc eC_NoWay icC_NoWay tyC_NoWay su_BadKey_NoWay).trans (by decide +kernel)
  have ex_BadErrand_BadPart : PySem.W.exmOne K (.ref (clsAt K "BadErrand")) (.ref (clsAt K "BadPart")) = some (decide (("BadErrand" : Str) = "BadPart")) := (exm_cc eC_BadPart icC_BadPart tyC_BadPart su_BadErrand_BadPart).trans (by decide +kernel)
  have ex_BadErrand_BadNumber : PySem.W.exmOne K (.ref (clsAt K "BadErrand")) (.ref (clsAt K "BadNumber")) = some (decide (("BadErrand" : Str) = "BadNumber")) := (exm_cc eC_BadNumber icC_BadNumber tyC_BadNumber su_BadErrand_BadNumber).trans (by decide +kernel)
  have ex_BadErrand_BadName : PySem.W.exmOne K (.ref (clsAt K "BadErrand")) (.ref (clsAt K "BadName")) = some (decide (("BadErrand" : Str) = "BadName")) := (exm_cc eC_BadName icC_BadName tyC_BadName su_BadErrand_BadName).trans (by decide +kernel)
  have ex_BadErrand_BadKey : PySem.W.exmOne K (.ref (clsAt K "BadErrand")) (.ref (clsAt K "BadKey")) = some (decide (("BadErrand" : Str) = "BadKey")) := (exm_cc eC_BadKey icC_BadKey tyC_BadKey su_BadErrand_BadKey).trans (by decide +kernel)
  have ex_BadErrand_BadErrand : PySem.W.exmOne K (.ref (clsAt K "BadErrand")) (.ref (clsAt K "BadErrand")) = some (decide (("BadErrand" : Str) = "BadErrand")) := (exm_cc eC_BadErrand icC_BadErrand tyC_BadErrand su_BadErrand_BadErrand).trans (by decide +kernel)
  have ex_BadErrand_BadIndex : PySem.W.exmOne K (.ref (clsAt K "BadErrand")) (.ref (clsAt K "BadIndex")) = some (decide (("BadErrand" : Str) = "BadIndex")) := (exm_cc eC_BadIndex icC_BadIndex tyC_BadIndex su_BadErrand_BadIndex).trans (by decide +kernel)
  have ex_BadErrand_BadOrder : PySem.W.exmOne K (.ref (clsAt K "BadErrand")) (.ref (clsAt K "BadOrder")) = some (decide (("BadErrand" : Str) = "BadOrder")) := (exm_cc eC_BadOrder icC_BadOrder tyC_BadOrder su_BadErrand_BadOrder).trans (by decide +kernel)
  have ex_BadErrand_NoWay : PySem.W.exmOne K (.ref (clsAt K "BadErrand")) (.ref (clsAt K "NoWay")) = some (decide (("BadErrand" : Str) = "NoWay")) := (exm_cc eC_NoWay icC_NoWay tyC_NoWay su_BadErrand_NoWay).trans (by decide +kernel)
  have ex_BadIndex_BadPart : PySem.W.exmOne K (.ref (clsAt K "BadIndex")) (.ref (clsAt K "BadPart")) = some (decide (("BadIndex" : Str) = "BadPart")) := (exm_cc eC_BadPart icC_BadPart tyC_BadPart su_BadIndex_BadPart).trans (by decide +kernel)
  have ex_BadIndex_BadNumber : PySem.W.exmOne K (.ref (clsAt K "BadIndex")) (.ref (clsAt K "BadNumber")) = some (decide (("BadIndex" : Str) = "BadNumber")) := (exm_cc eC_BadNumber icC_BadNumber tyC_BadNumber su_BadIndex_BadNumber).trans (by decide +kernel)
  have ex_BadIndex_BadName : PySem.W.exmOne K (.ref (clsAt K "BadIndex")) (.ref (clsAt K "BadName")) = some (decide (("BadIndex" : Str) = "BadName")) := (exm_cc eC_BadName icC_BadName tyC_BadName su_BadIndex_BadName).trans (by decide +kernel)
  have ex_BadIndex_BadKey : PySem.W.exmOne K (.ref (clsAt K "BadIndex")) (.ref (clsAt K "BadKey")) = some (decide (("BadIndex" : Str) = "BadKey")) := (exm_cc eC_BadKey icC_BadKey tyC_BadKey su_BadIndex_BadKey).trans (by decide +kernel)
  have ex_BadIndex_BadErrand : PySem.W.exmOne K (.ref (clsAt K "BadIndex")) (.ref (clsAt K "BadErrand")) = some (decide (("BadIndex" : Str) = "BadErrand")) := (exm_cc eC_BadErrand icC_BadErrand tyC_BadErrand su_BadIndex_BadErrand).trans (by decide +kernel)
  have ex_BadIndex_BadIndex : PySem.W.exmOne K (.ref (clsAt K "BadIndex")) (.ref (clsAt K "BadIndex")) = some (decide (("BadIndex" : Str) = "BadIndex")) := (exm_cc eC_BadIndex icC_BadIndex tyC_BadIndex su_BadIndex_BadIndex).trans (by decide +kernel)
  have ex_BadIndex_BadOrder : PySem.W.exmOne K (.ref (clsAt K "BadIndex")) (.ref (clsAt K "BadOrder")) = some (decide (("BadIndex" : Str) = "BadOrder")) := (exm_cc eC_BadOrder icC_BadOrder tyC_BadOrder su_BadIndex_BadOrder).trans (by decide +kernel)
  have ex_BadIndex_NoWay : PySem.W.exmOne K (.ref (clsAt K "BadIndex")) (.ref (clsAt K "NoWay")) = some (decide (("BadIndex" : Str) = "NoWay")) := (exm_cc eC_NoWay icC_NoWay tyC_NoWay su_BadIndex_NoWay).trans (by decide +kernel)
  have ex_BadOrder_BadPart : PySem.W.exmOne K (.ref (clsAt K "BadOrder")) (.ref (clsAt K "BadPart")) = some (decide (("BadOrder" : Str) = "BadPart")) := (exm_cc eC_BadPart icC_BadPart tyC_BadPart su_BadOrder_BadPart).trans (by decide +kernel)
  have ex_BadOrder_BadNumber : PySem.W.exmOne K (.ref (clsAt K "BadOrder")) (.ref (clsAt K "BadNumber")) = some (decide (("BadOrder" : Str) = "BadNumber")) := (exm_cc eC_BadNumber icC_BadNumber tyC_BadNumber su_BadOrder_BadNumber).trans (by decide +kernel)
  have ex_BadOrder_BadName : PySem.W.exmOne K (.ref (clsAt K "BadOrder")) (.ref (clsAt K "BadName")) = some (decide (("BadOrder" : Str) = "BadName")) := (exm_cc eC_BadName icC_BadName tyC_BadName su_BadOrder_BadName).trans (by decide +kernel)
  have ex_BadOrder_BadKey : PySem.W.exmOne K (.ref (clsAt K "BadOrder")) (.ref (clsAt K "BadKey")) = some (decide (("BadOrder" : Str) = "BadKey")) := (exm_cc eC_BadKey icC_BadKey tyC_BadKey su_BadOrder_BadKey).trans (by decide +kernel)
  have ex_BadOrder_BadErrand : PySem.W.exmOne K (.ref (clsAt K "BadOrder")) (.ref (clsAt K "BadErrand")) = some (decide (("BadOrder" : Str) = "BadErrand")) := (exm_cc eC_BadErrand icC_BadErrand tyC_BadErrand su_BadOrder_BadErrand).trans (by decide +kernel)
  have ex_BadOrder_BadIndex : PySem.W.exmOne K (.ref (clsAt K "BadOrder")) (.ref (clsAt K "BadIndex")) = some (decide (("BadOrder" : Str) = "BadIndex")) := (exm_cc eC_BadIndex icC_BadIndex tyC_BadIndex su_BadOrder_BadIndex).trans (by decide +kernel)
  have ex_BadOrder_BadOrder : PySem.W.exmOne K (.ref (clsAt K "BadOrder")) (.ref (clsAt K "BadOrder")) = some (decide (("BadOrder" : Str) = "BadOrder")) := (exm_cc eC_BadOrder icC_BadOrder tyC_BadOrder su_BadOrder_BadOrder).trans (by decide +kernel)
  have ex_BadOrder_NoWay : PySem.W.exmOne K (.ref (clsAt K "BadOrder")) (.ref (clsAt K "NoWay")) = some (decide (("BadOrder" : Str) = "NoWay")) := (exm_cc eC_NoWay icC_NoWay tyC_NoWay su_BadOrder_NoWay).trans (by decide +kernel)
  have ex_NoWay_BadPart : PySem.W.exmOne K (.ref (clsAt K "NoWay")) (.ref (clsAt K "BadPart")) = some (decide (("NoWay" : Str) = "BadPart")) := (exm_cc eC_BadPart icC_BadPart tyC_BadPart su_NoWay_BadPart).trans (by decide +kernel)
  have ex_NoWay_BadNumber : PySem.W.exmOne K (.ref (clsAt K "NoWay")) (.ref (clsAt K "BadNumber")) = some (decide (("NoWay" : Str) = "BadNumber")) := (exm_cc eC_BadNumber icC_BadNumber tyC_BadNumber su_NoWay_BadNumber).trans (by decide +kernel)
  have ex_NoWay_BadName : PySem.W.exmOne K (.ref (clsAt K "NoWay")) (.ref (clsAt K "BadName")) = some (decide (("NoWay" : Str) = "BadName")) := (exm_cc eC_BadName icC_BadName tyC_BadName su_NoWay_BadName).trans (by decide +kernel)
  have ex_NoWay_BadKey : PySem.W.exmOne K (.ref (clsAt K "NoWay")) (.ref (clsAt K "BadKey")) = some (decide (("NoWay" : Str) = "BadKey")) := (exm_cc eC_BadKey icC_BadKey tyC_BadKey su_NoWay_BadKey).trans (by decide +kernel)
  have ex_NoWay_BadErrand : PySem.W.exmOne K (.ref (clsAt K "NoWay")) (.ref (clsAt K "BadErrand")) = some (decide (("NoWay" : Str) = "BadErrand")) := (exm_cc eC_BadErrand icC_BadErrand tyC_BadErrand su_NoWay_BadErrand).trans (by decide +kernel)
  have ex_NoWay_BadIndex : PySem.W.exmOne K (.ref (clsAt K "NoWay")) (.ref (clsAt K "BadIndex")) = some (decide (("NoWay" : Str) = "BadIndex")) := (exm_cc eC_BadIndex icC_BadIndex tyC_BadIndex su_NoWay_BadIndex).trans (by decide +kernel)
  have ex_NoWay_BadOrder : PySem.W.exmOne K (.ref (clsAt K "NoWay")) (.ref (clsAt K "BadOrder")) = some (decide (("NoWay" : Str) = "BadOrder")) := (exm_cc eC_BadOrder icC_BadOrder tyC_BadOrder su_NoWay_BadOrder).trans (by decide +kernel)
  have ex_NoWay_NoWay : PySem.W.exmOne K (.ref (clsAt K "NoWay")) (.ref (clsAt K "NoWay")) = some (decide (("NoWay" : Str) = "NoWay")) := (exm_cc eC_NoWay icC_NoWay tyC_NoWay su_NoWay_NoWay).trans (by decide +kernel)
  have EF__law_heard : ClsFacts K cs__law_heard := ⟨fun c hc c' hc' => by
    unfold cs__law_heard at hc hc'
    simp only [List.mem_cons, List.not_mem_nil, or_false] at hc hc'
    rcases hc with rfl | rfl | rfl | rfl | rfl | rfl | rfl | rfl <;> rcases hc' with rfl | rfl | rfl | rfl | rfl | rfl | rfl | rfl <;> first | exact ex_BadPart_BadPart | exact ex_BadPart_BadNumber | exact ex_BadPart_BadName | exact ex_BadPart_BadKey | exact ex_BadPart_BadErrand | exact ex_BadPart_BadIndex | exact ex_BadPart_BadOrder | exact ex_BadPart_NoWay | exact ex_BadNumber_BadPart | exact ex_BadNumber_BadNumber | exact ex_BadNumber_BadName | exact ex_BadNumber_BadKey | exact ex_BadNumber_BadErrand | exact ex_BadNumber_BadIndex | exact ex_BadNumber_BadOrder | exact ex_BadNumber_NoWay | exact ex_BadName_BadPart | exact ex_BadName_BadNumber | exact ex_BadName_BadName | exact ex_BadName_BadKey | exact ex_BadName_BadErrand | exact ex_BadName_BadIndex | exact ex_BadName_BadOrder | exact ex_BadName_NoWay | exact ex_BadKey_BadPart | exact ex_BadKey_BadNumber | exact ex_BadKey_BadName | exact ex_BadKey_BadKey | exact ex_BadKey_BadErrand | exact ex_BadKey_BadIndex | exact ex_BadKey_BadOrder | exact ex_BadKey_NoWay | exact ex_BadErrand_BadPart | exact ex_BadErrand_BadNumber | exact ex_BadErrand_BadName | exact ex_BadErrand_BadKey | exact ex_BadErrand_BadErrand | exact ex_BadErrand_BadIndex | exact ex_BadErrand_BadOrder | exact ex_BadErrand_NoWay | exact ex_BadIndex_BadPart | exact ex_BadIndex_BadNumber | exact ex_BadIndex_BadName | exact ex_BadIndex_BadKey | exact ex_BadIndex_BadErrand | exact ex_BadIndex_BadIndex | exact ex_BadIndex_BadOrder | exact ex_BadIndex_NoWay | exact ex_BadOrder_BadPart | exact ex_BadOrder_BadNumber | exact ex_BadOrder_BadName | exact ex_BadOrder_BadKey | exact ex_BadOrder_BadErrand | exact ex_BadOrder_BadIndex | exact ex_BadOrder_BadOrder | exact ex_BadOrder_NoWay | exact ex_NoWay_BadPart | exact ex_NoWay_BadNumber | exact ex_NoWay_BadName | exact ex_NoWay_BadKey | exact ex_NoWay_BadErrand | exact ex_NoWay_BadIndex | exact ex_NoWay_BadOrder | exact ex_NoWay_NoWay⟩
  have F0 := fun_mk (st := (top 14)) l0 c0 k0
  have b0 := F0.binds (ps := ["value"]) fun _ _ _ _ _ _ us hl => match us, hl with | [_], _ => rfl
  have F1 := fun_mk (st := (top 15)) l1 c1 k1
  have b1 := F1.binds (ps := ["value", "low", "high"]) fun _ _ _ _ _ _ us hl => match us, hl with | [_, _, _], _ => rfl
  have F2 := fun_mk (st := (top 16)) l2 c2 k2
  have b2 := F2.binds (ps := ["value"]) fun _ _ _ _ _ _ us hl => match us, hl with | [_], _ => rfl
  have F3 := fun_mk (st := (top 17)) l3 c3 k3
  have b3 := F3.binds (ps := ["value"]) fun _ _ _ _ _ _ us hl => match us, hl with | [_], _ => rfl
  have F4 := fun_mk (st := (top 18)) l4 c4 k4
  have b4 := F4.binds (ps := ["value"]) fun _ _ _ _ _ _ us hl => match us, hl with | [_], _ => rfl
  have F5 := fun_mk (st := (top 19)) l5 c5 k5
  have b5 := F5.binds (ps := ["value"]) fun _ _ _ _ _ _ us hl => match us, hl with | [_], _ => rfl
  have F6 := fun_mk (st := (top 21)) l6 c6 k6
  have b6 := F6.binds (ps := ["name", "place", "part"]) fun _ _ _ _ _ _ us hl => match us, hl with | [_, _, _], _ => rfl
  have F7 := fun_mk (st := (top 23)) l7 c7 k7
  have b7 := F7.binds (ps := ["value"]) fun _ _ _ _ _ _ us hl => match us, hl with | [_], _ => rfl
  have F8 := fun_mk (st := (top 24)) l8 c8 k8
  have b8 := F8.binds (ps := ["errands"]) fun _ _ _ _ _ _ us hl => match us, hl with | [_], _ => rfl
  have F9 : FunD K "__init__" "Person.__init__" (defArgs (inTop 25 0)) (defBody (inTop 25 0)) (defScope (inTop 25 0)) [(.ref td9_0)] [] f9 _ := ⟨⟨_, _, _, _, _, _, _, _, _, _, rfl, l9, c9, .inr ⟨by simp, t9, _, _, _, rfl, t9_, rfl, .cons rfl (.nil)⟩, .inl rfl⟩, k9⟩
  obtain ⟨z9, zv9, b9⟩ := F9.binds1 (ps := ["self", "name", "home", "leaves", "errands"]) 5 1 (by simp) rfl fun T kV doc pm an cdv ct us its hu hi => match us, hu, its, hi with | [_, _, _, _, _], _, [_], _ => ⟨_, rfl, rfl⟩
  have zz9 : z9 = [] := by cases zv9; rfl
  subst zz9
  have F10 := fun_mk (st := (inTop 25 1)) l10 c10 k10
  have b10 := F10.binds (ps := ["self", "other"]) fun _ _ _ _ _ _ us hl => match us, hl with | [_, _], _ => rfl
  have F11 := fun_mk (st := (inTop 25 2)) l11 c11 k11
  have b11 := F11.binds (ps := ["self"]) fun _ _ _ _ _ _ us hl => match us, hl with | [_], _ => rfl
  have F12 := fun_mk (st := (inTop 25 3)) l12 c12 k12
  have b12 := F12.binds (ps := ["self", "minute"]) fun _ _ _ _ _ _ us hl => match us, hl with | [_, _], _ => rfl
  have F13 := fun_mk (st := (inTop 25 4)) l13 c13 k13
  have b13 := F13.binds (ps := ["self", "index", "errand"]) fun _ _ _ _ _ _ us hl => match us, hl with | [_, _, _], _ => rfl
  have F14 := fun_mk (st := (top 27)) l14 c14 k14
  have b14 := F14.binds (ps := ["_law_script", "_law_k"]) fun _ _ _ _ _ _ us hl => match us, hl with | [_, _], _ => rfl
  have F15 := fun_mk (st := (top 28)) l15 c15 k15
  have b15 := F15.binds (ps := ["_law_source", "_law_top"]) fun _ _ _ _ _ _ us hl => match us, hl with | [_, _], _ => rfl
  have F16 := fun_mk (st := (top 29)) l16 c16 k16
  have b16 := F16.binds (ps := ["_law_source", "_law_things"]) fun _ _ _ _ _ _ us hl => match us, hl with | [_, _], _ => rfl
  have F17 := fun_mk (st := (top 30)) l17 c17 k17
  have b17 := F17.binds (ps := ["_law_script"]) fun _ _ _ _ _ _ us hl => match us, hl with | [_], _ => rfl
  have F18 := fun_mk (st := (top 32)) l18 c18 k18
  have b18 := F18.binds (ps := ["_law_source"]) fun _ _ _ _ _ _ us hl => match us, hl with | [_], _ => rfl
  have F19 := fun_mk (st := (top 33)) l19 c19 k19
  have b19 := F19.binds (ps := []) fun _ _ _ _ _ _ us hl => match us, hl with | [], _ => rfl
  have F20 := fun_mk (st := (top 34)) l20 c20 k20
  have b20 := F20.binds (ps := ["_law_source", "_law_rows"]) fun _ _ _ _ _ _ us hl => match us, hl with | [_, _], _ => rfl
  have F21 := fun_mk (st := (top 35)) l21 c21 k21
  have b21 := F21.binds (ps := ["_law_source", "_law_person", "_law_rows"]) fun _ _ _ _ _ _ us hl => match us, hl with | [_, _, _], _ => rfl
  have F22 := fun_mk (st := (top 36)) l22 c22 k22
  have b22 := F22.binds (ps := ["_law_script"]) fun _ _ _ _ _ _ us hl => match us, hl with | [_], _ => rfl
  have FH0 := fun_mk (st := (top 31)) lH0 cH0 kH0
  have bH0 := FH0.binds (ps := ["_law_call"]) fun _ _ _ _ _ _ us hl => match us, hl with | [_], _ => rfl
  have H__law_heard : HrdF K mg "_law_heard" (top 31) "_law_call" fH0 cdH0 := ⟨PySem.W.mg_of X G aH0, kH0, ⟨_, _, _, _, _, _, _, _, _, lH0, bH0⟩, cH0⟩
  have z_isinstance := PySem.W.mg_none_of X G Z_isinstance
  have z_int := PySem.W.mg_none_of X G Z_int
  have z_bool := PySem.W.mg_none_of X G Z_bool
  have z_list := PySem.W.mg_none_of X G Z_list
  have z_tuple := PySem.W.mg_none_of X G Z_tuple
  have z_str := PySem.W.mg_none_of X G Z_str
  have z_len := PySem.W.mg_none_of X G Z_len
  have z_all := PySem.W.mg_none_of X G Z_all
  have z_enumerate := PySem.W.mg_none_of X G Z_enumerate
  have z_max := PySem.W.mg_none_of X G Z_max
  have z_range := PySem.W.mg_none_of X G Z_range
  have z_min := PySem.W.mg_none_of X G Z_min
  have z_repr := PySem.W.mg_none_of X G Z_repr
  have c_LAST_MINUTE := PySem.W.mg_of X G N_LAST_MINUTE
  have c_LONGEST := PySem.W.mg_of X G N_LONGEST
  have c_LETTERS := PySem.W.mg_of X G N_LETTERS
  have cl : ∀ C, C ∈ (["Person"] : List Str) → Cls K (clsAt K C) := fun C hC => by
    simp only [List.mem_cons, List.not_mem_nil, or_false] at hC
    (subst hC; exact ⟨pgC_Person, hdC_Person, poC_Person, saC_Person⟩)
  have hC : ∀ C, C ∈ (["Person"] : List Str) → IsC K C := fun C hC => by
    have cl0 := cl C hC
    simp only [List.mem_cons, List.not_mem_nil, or_false] at hC
    (subst hC; exact ⟨cl0, haC_Person, oc_hn, oc_ht, hmC_Person⟩)
  have hF : ClsF K ["Person"] ["name", "home", "leaves", "errands"] := ⟨cl, fun C hC f hf => by
    simp only [List.mem_cons, List.not_mem_nil, or_false] at hC hf
    rcases hf with hf | hf | hf | hf <;> first | (subst hC; subst hf; exact nnameC_Person) | (subst hC; subst hf; exact nhomeC_Person) | (subst hC; subst hf; exact nleavesC_Person) | (subst hC; subst hf; exact nerrandsC_Person)⟩
  have nf_Person : NFo K "Person" := ⟨nfn_Person, nfb_Person, nfi_Person, nfs_Person, nfl_Person, nft_Person, nfd_Person, nfe_Person⟩
  have K_int : IsK K ["Person"] .int (.type "int") := ⟨rfl, rfl, rfl, rfl, rfl, rfl, rfl, fun C hC => by
    simp only [List.mem_cons, List.not_mem_nil, or_false] at hC
    first | (subst hC; exact kit_ct rfl S_int_Person)⟩
  have K_bool : IsK K ["Person"] .bool (.type "bool") := ⟨rfl, rfl, rfl, rfl, rfl, rfl, rfl, fun C hC => by
    simp only [List.mem_cons, List.not_mem_nil, or_false] at hC
    first | (subst hC; exact kit_ct rfl S_bool_Person)⟩
  have K_list : IsK K ["Person"] .list (.type "list") := ⟨rfl, rfl, rfl, rfl, rfl, rfl, rfl, fun C hC => by
    simp only [List.mem_cons, List.not_mem_nil, or_false] at hC
    first | (subst hC; exact kit_ct rfl S_list_Person)⟩
  have K_tuple : IsK K ["Person"] .tuple (.type "tuple") := ⟨rfl, rfl, rfl, rfl, rfl, rfl, rfl, fun C hC => by
    simp only [List.mem_cons, List.not_mem_nil, or_false] at hC
    first | (subst hC; exact kit_ct rfl S_tuple_Person)⟩
  have K_str : IsK K ["Person"] .str (.type "str") := ⟨rfl, rfl, rfl, rfl, rfl, rfl, rfl, fun C hC => by
    simp only [List.mem_cons, List.not_mem_nil, or_false] at hC
    first | (subst hC; exact kit_ct rfl S_str_Person)⟩
  have K_Person : IsK K ["Person"] (.cls "Person") (.ref (clsAt K "Person")) := ⟨kit_tc iC_Person tC_Person rfl, kit_tc iC_Person tC_Person rfl, kit_tc iC_Person tC_Person rfl, kit_tc iC_Person tC_Person rfl, kit_tc iC_Person tC_Person rfl, kit_tc iC_Person tC_Person rfl, kit_tc iC_Person tC_Person rfl, fun C hC => by
    simp only [List.mem_cons, List.not_mem_nil, or_false] at hC
    first | (subst hC; exact kit_self)⟩
  refine ⟨PySem.W.fnOf "law" "law" (defArgs (top 36)) (defBody (top 36)) (defScope (top 36)) .none kV22 dc22 pm22 an22 cd22 ct22, [(cc20, P20), (cc21, P21)], spLaw K, ?_, ?_, ?_, fun s v => .of_eq rfl, ?_, fun base _ _ TB => ?_⟩
  · intro p hp; simp only [List.mem_cons, List.not_mem_nil, or_false] at hp
    rcases hp with rfl | rfl <;> first | exact th20.2 | exact th21.2
  · intro p hp; simp only [List.mem_cons, List.not_mem_nil, or_false] at hp
    rcases hp with rfl | rfl <;> first | exact n20 | exact n21
  · intro p hp; simp only [List.mem_cons, List.not_mem_nil, or_false] at hp
    rcases hp with rfl | rfl <;> first | exact th20.1 | exact th21.1
  · intro H a ns hl hT hS
    refine ⟨a, ns, fun P q m => ?_, rfl, hS, hl, fun _ => rfl⟩
    have m : (P, q) ∈ ([(P20, (PySem.Str.ofString "_law_refused" ++ PySem.Str.ofString ".<locals>." ++ "<lambda>")), (P21, (PySem.Str.ofString "_law_changed_right" ++ PySem.Str.ofString ".<locals>." ++ "<lambda>"))] : List (Addr × Str)) := m
    simp only [List.mem_cons, List.not_mem_nil, or_false] at m
    rcases m with m | m <;> (cases m; first | exact tabS_empty (hT (cc20, P20) (by simp)) | exact tabS_empty (hT (cc21, P21) (by simp)))
  have m20 : (P20, (PySem.Str.ofString "_law_refused" ++ PySem.Str.ofString ".<locals>." ++ "<lambda>")) ∈ I1.T := by show _ ∈ ([(P20, (PySem.Str.ofString "_law_refused" ++ PySem.Str.ofString ".<locals>." ++ "<lambda>")), (P21, (PySem.Str.ofString "_law_changed_right" ++ PySem.Str.ofString ".<locals>." ++ "<lambda>"))] : List (Addr × Str)); simp
  have o20 : ∀ p ∈ I1.T, p.1 = P20 → p.2 = (PySem.Str.ofString "_law_refused" ++ PySem.Str.ofString ".<locals>." ++ "<lambda>") := fun p hp hq => by
    have hp : p ∈ ([(P20, (PySem.Str.ofString "_law_refused" ++ PySem.Str.ofString ".<locals>." ++ "<lambda>")), (P21, (PySem.Str.ofString "_law_changed_right" ++ PySem.Str.ofString ".<locals>." ++ "<lambda>"))] : List (Addr × Str)) := hp
    simp only [List.mem_cons, List.not_mem_nil, or_false] at hp
    rcases hp with rfl | rfl <;> first | exact absurd hq (Ne.symm d20_21) | rfl
  have LT20 : LamT base mg (PySem.W.fnOf "_law_refused" "_law_refused" (defArgs (top 34)) (defBody (top 34)) (defScope (top 34)) .none kV20 dc20 pm20 an20 (.ref cc20) ct20) (PySem.Str.ofString "_law_refused" ++ PySem.Str.ofString ".<locals>.") cc20 P20 := ⟨rfl, TB (cc20, P20) (by simp), m20, o20⟩
  have m21 : (P21, (PySem.Str.ofString "_law_changed_right" ++ PySem.Str.ofString ".<locals>." ++ "<lambda>")) ∈ I1.T := by show _ ∈ ([(P20, (PySem.Str.ofString "_law_refused" ++ PySem.Str.ofString ".<locals>." ++ "<lambda>")), (P21, (PySem.Str.ofString "_law_changed_right" ++ PySem.Str.ofString ".<locals>." ++ "<lambda>"))] : List (Addr × Str)); simp
  have o21 : ∀ p ∈ I1.T, p.1 = P21 → p.2 = (PySem.Str.ofString "_law_changed_right" ++ PySem.Str.ofString ".<locals>." ++ "<lambda>") := fun p hp hq => by
    have hp : p ∈ ([(P20, (PySem.Str.ofString "_law_refused" ++ PySem.Str.ofString ".<locals>." ++ "<lambda>")), (P21, (PySem.Str.ofString "_law_changed_right" ++ PySem.Str.ofString ".<locals>." ++ "<lambda>"))] : List (Addr × Str)) := hp
    simp only [List.mem_cons, List.not_mem_nil, or_false] at hp
    rcases hp with rfl | rfl <;> first | exact absurd hq d20_21 | rfl
  have LT21 : LamT base mg (PySem.W.fnOf "_law_changed_right" "_law_changed_right" (defArgs (top 35)) (defBody (top 35)) (defScope (top 35)) .none kV21 dc21 pm21 an21 (.ref cc21) ct21) (PySem.Str.ofString "_law_changed_right" ++ PySem.Str.ofString ".<locals>.") cc21 P21 := ⟨rfl, TB (cc21, P21) (by simp), m21, o21⟩
  have FF_is_whole : @FnF I1 ⟨False⟩ l.prog w K mg base 1 "is_whole" f_is_whole := by letI I2 : GdW := ⟨False⟩; exact fnF_mk (by decide) (PySem.W.mg_of X G a0) k0 (ok_is_whole (P := l.prog) (w := w) (mg := mg) (base := base) F0 (z_isinstance := z_isinstance) (z_int := z_int) (z_bool := z_bool) (hC := hC) (K_int := K_int) (K_bool := K_bool)) b0
  have FU_is_whole : @FnF I1 ⟨True⟩ l.prog w K mg base 1 "is_whole" f_is_whole := by letI I2 : GdW := ⟨True⟩; exact fnF_mk (by decide) (PySem.W.mg_of X G a0) k0 (ok_is_whole (P := l.prog) (w := w) (mg := mg) (base := base) F0 (z_isinstance := z_isinstance) (z_int := z_int) (z_bool := z_bool) (hC := hC) (K_int := K_int) (K_bool := K_bool)) b0
  have FF_is_between : @FnF I1 ⟨False⟩ l.prog w K mg base 2 "is_between" f_is_between := by letI I2 : GdW := ⟨False⟩; exact fnF_mk (by decide) (PySem.W.mg_of X G a1) k1 (ok_is_between (P := l.prog) (w := w) (mg := mg) (base := base) F1 (F_is_whole := FF_is_whole)) b1
  have FU_is_between : @FnF I1 ⟨True⟩ l.prog w K mg base 2 "is_between" f_is_between := by letI I2 : GdW := ⟨True⟩; exact fnF_mk (by decide) (PySem.W.mg_of X G a1) k1 (ok_is_between (P := l.prog) (w := w) (mg := mg) (base := base) F1 (F_is_whole := FU_is_whole)) b1
  have FF_is_told_minute : @FnF I1 ⟨False⟩ l.prog w K mg base 3 "is_told_minute" f_is_told_minute := by letI I2 : GdW := ⟨False⟩; exact fnF_mk (by decide) (PySem.W.mg_of X G a2) k2 (ok_is_told_minute (P := l.prog) (w := w) (mg := mg) (base := base) F2 (F_is_between := FF_is_between) (c_LAST_MINUTE := c_LAST_MINUTE)) b2
  have FU_is_told_minute : @FnF I1 ⟨True⟩ l.prog w K mg base 3 "is_told_minute" f_is_told_minute := by letI I2 : GdW := ⟨True⟩; exact fnF_mk (by decide) (PySem.W.mg_of X G a2) k2 (ok_is_told_minute (P := l.prog) (w := w) (mg := mg) (base := base) F2 (F_is_between := FU_is_between) (c_LAST_MINUTE := c_LAST_MINUTE)) b2
  have FF_is_told_length : @FnF I1 ⟨False⟩ l.prog w K mg base 3 "is_told_length" f_is_told_length := by letI I2 : GdW := ⟨False⟩; exact fnF_mk (by decide) (PySem.W.mg_of X G a3) k3 (ok_is_told_length (P := l.prog) (w := w) (mg := mg) (base := base) F3 (F_is_between := FF_is_between) (c_LONGEST := c_LONGEST)) b3
  have FU_is_told_length : @FnF I1 ⟨True⟩ l.prog w K mg base 3 "is_told_length" f_is_told_length := by letI I2 : GdW := ⟨True⟩; exact fnF_mk (by decide) (PySem.W.mg_of X G a3) k3 (ok_is_told_length (P := l.prog) (w := w) (mg := mg) (base := base) F3 (F_is_between := FU_is_between) (c_LONGEST := c_LONGEST)) b3
  have FF_is_listed : @FnF I1 ⟨False⟩ l.prog w K mg base 1 "is_listed" f_is_listed := by letI I2 : GdW := ⟨False⟩; exact fnF_mk (by decide) (PySem.W.mg_of X G a4) k4 (ok_is_listed (P := l.prog) (w := w) (mg := mg) (base := base) F4 (z_isinstance := z_isinstance) (z_list := z_list) (z_tuple := z_tuple) (hC := hC) (K_list := K_list) (K_tuple := K_tuple)) b4
  have FU_is_listed : @FnF I1 ⟨True⟩ l.prog w K mg base 1 "is_listed" f_is_listed := by letI I2 : GdW := ⟨True⟩; exact fnF_mk (by decide) (PySem.W.mg_of X G a4) k4 (ok_is_listed (P := l.prog) (w := w) (mg := mg) (base := base) F4 (z_isinstance := z_isinstance) (z_list := z_list) (z_tuple := z_tuple) (hC := hC) (K_list := K_list) (K_tuple := K_tuple)) b4
  have FF_is_name : @FnF I1 ⟨False⟩ l.prog w K mg base 1 "is_name" f_is_name := by letI I2 : GdW := ⟨False⟩; exact fnF_mk (by decide) (PySem.W.mg_of X G a5) k5 (ok_is_name (P := l.prog) (w := w) (mg := mg) (base := base) F5 (c_LETTERS := c_LETTERS) (z_isinstance := z_isinstance) (z_str := z_str) (z_len := z_len) (z_all := z_all) (hC := hC) (K_str := K_str)) b5
  have FU_is_name : @FnF I1 ⟨True⟩ l.prog w K mg base 1 "is_name" f_is_name := by letI I2 : GdW := ⟨True⟩; exact fnF_mk (by decide) (PySem.W.mg_of X G a5) k5 (ok_is_name (P := l.prog) (w := w) (mg := mg) (base := base) F5 (c_LETTERS := c_LETTERS) (z_isinstance := z_isinstance) (z_str := z_str) (z_len := z_len) (z_all := z_all) (hC := hC) (K_str := K_str)) b5
  have FF_need_name_and_place : @FnF I1 ⟨False⟩ l.prog w K mg base 2 "need_name_and_place" f_need_name_and_place := by letI I2 : GdW := ⟨False⟩; exact fnF_mk (by decide) (PySem.W.mg_of X G a6) k6 (ok_need_name_and_place (P := l.prog) (w := w) (mg := mg) (base := base) F6 (F_is_name := FF_is_name) (T_BadName := T_BadName) (T_BadPart := T_BadPart)) b6
  have FU_need_name_and_place : @FnF I1 ⟨True⟩ l.prog w K mg base 2 "need_name_and_place" f_need_name_and_place := by letI I2 : GdW := ⟨True⟩; exact fnF_mk (by decide) (PySem.W.mg_of X G a6) k6 (ok_need_name_and_place (P := l.prog) (w := w) (mg := mg) (base := base) F6 (F_is_name := FU_is_name) (T_BadName := T_BadName) (T_BadPart := T_BadPart)) b6
  have FF_is_errand : @FnF I1 ⟨False⟩ l.prog w K mg base 4 "is_errand" f_is_errand := by letI I2 : GdW := ⟨False⟩; exact fnF_mk (by decide) (PySem.W.mg_of X G a7) k7 (ok_is_errand (P := l.prog) (w := w) (mg := mg) (base := base) F7 (F_is_name := FF_is_name) (F_is_told_length := FF_is_told_length) (z_isinstance := z_isinstance) (z_tuple := z_tuple) (z_len := z_len) (z_str := z_str) (hC := hC) (K_tuple := K_tuple) (K_str := K_str)) b7
  have FU_is_errand : @FnF I1 ⟨True⟩ l.prog w K mg base 4 "is_errand" f_is_errand := by letI I2 : GdW := ⟨True⟩; exact fnF_mk (by decide) (PySem.W.mg_of X G a7) k7 (ok_is_errand (P := l.prog) (w := w) (mg := mg) (base := base) F7 (F_is_name := FU_is_name) (F_is_told_length := FU_is_told_length) (z_isinstance := z_isinstance) (z_tuple := z_tuple) (z_len := z_len) (z_str := z_str) (hC := hC) (K_tuple := K_tuple) (K_str := K_str)) b7
  have FF_need_errands : @FnF I1 ⟨False⟩ l.prog w K mg base 5 "need_errands" f_need_errands := by letI I2 : GdW := ⟨False⟩; exact fnF_mk (by decide) (PySem.W.mg_of X G a8) k8 (ok_need_errands (P := l.prog) (w := w) (mg := mg) (base := base) F8 (F_is_listed := FF_is_listed) (F_is_errand := FF_is_errand) (T_BadPart := T_BadPart) (T_BadErrand := T_BadErrand) (z_len := z_len) (z_enumerate := z_enumerate)) b8
  have FU_need_errands : @FnF I1 ⟨True⟩ l.prog w K mg base 5 "need_errands" f_need_errands := by letI I2 : GdW := ⟨True⟩; exact fnF_mk (by decide) (PySem.W.mg_of X G a8) k8 (ok_need_errands (P := l.prog) (w := w) (mg := mg) (base := base) F8 (F_is_listed := FU_is_listed) (F_is_errand := FU_is_errand) (T_BadPart := T_BadPart) (T_BadErrand := T_BadErrand) (z_len := z_len) (z_enumerate := z_enumerate)) b8
  have CF_Person : @MkF I1 ⟨False⟩ l.prog w K mg base 6 "Person" k_Person := by letI I2 : GdW := ⟨False⟩; exact mkF_mk (by decide) g_Person ⟨mkC_Person, a9, i9, kcC_Person⟩ (ok_Person___init__ (P := l.prog) (w := w) (mg := mg) (base := base) F9 (cl _ (by simp)) (fun f hf => hF.no "Person" (by simp) f (by revert f; decide +kernel)) init_Person (F_need_name_and_place := FF_need_name_and_place) (F_is_told_minute := FF_is_told_minute) (F_need_errands := FF_need_errands) (T_BadNumber := T_BadNumber) (z_tuple := z_tuple)) b9
  have CU_Person : @MkF I1 ⟨True⟩ l.prog w K mg base 6 "Person" k_Person := by letI I2 : GdW := ⟨True⟩; exact mkF_mk (by decide) g_Person ⟨mkC_Person, a9, i9, kcC_Person⟩ (ok_Person___init__ (P := l.prog) (w := w) (mg := mg) (base := base) F9 (cl _ (by simp)) (fun f hf => hF.no "Person" (by simp) f (by revert f; decide +kernel)) init_Person (F_need_name_and_place := FU_need_name_and_place) (F_is_told_minute := FU_is_told_minute) (F_need_errands := FU_need_errands) (T_BadNumber := T_BadNumber) (z_tuple := z_tuple)) b9
  have CU_Person_kw : @MkKF I1 ⟨True⟩ l.prog w K mg base 6 "Person" k_Person_kw ["name", "errands", "home", "leaves"] := by letI I2 : GdW := ⟨True⟩; exact mkK_perm (by decide) g_Person ⟨mkC_Person, a9, i9, kcC_Person⟩ (ok_Person___init__ (P := l.prog) (w := w) (mg := mg) (base := base) F9 (cl _ (by simp)) (fun f hf => hF.no "Person" (by simp) f (by revert f; decide +kernel)) init_Person (F_need_name_and_place := FU_need_name_and_place) (F_is_told_minute := FU_is_told_minute) (F_need_errands := FU_need_errands) (T_BadNumber := T_BadNumber) (z_tuple := z_tuple)) rfl (kb_perm F9 (by simp) rfl fun T kV doc pm an cdv ct us its ws h1 h2 h3 => match us, h1, its, h2, ws, h3 with | [_], _, [_], _, [_, _, _, _], _ => ⟨_, rfl, rfl⟩)
  have MU___eq__ : @MtF I1 ⟨True⟩ l.prog w K mg base 1 m_Person___eq__ := by letI I2 : GdW := ⟨True⟩; exact mtF_mk (cl _ (by simp)) ⟨a10, i10, k10⟩ (ok_Person___eq__ (P := l.prog) (w := w) (mg := mg) (base := base) F10 (z_isinstance := z_isinstance) (hC := hC) (g_Person := g_Person) (K_Person := K_Person) (hF := hF)) b10
  have MU_own_keys : @MtF I1 ⟨True⟩ l.prog w K mg base 1 m_Person_own_keys := by letI I2 : GdW := ⟨True⟩; exact mtF_mk (cl _ (by simp)) ⟨a11, i11, k11⟩ (ok_Person_own_keys (P := l.prog) (w := w) (mg := mg) (base := base) F11 (z_enumerate := z_enumerate) (hF := hF)) b11
  have MF_leaving_at : @MtF I1 ⟨False⟩ l.prog w K mg base 8 m_Person_leaving_at := by letI I2 : GdW := ⟨False⟩; exact mtF_mk (cl _ (by simp)) ⟨a12, i12, k12⟩ (ok_Person_leaving_at (P := l.prog) (w := w) (mg := mg) (base := base) F12 (C_Person := CF_Person) (hF := hF)) b12
  have MU_leaving_at : @MtF I1 ⟨True⟩ l.prog w K mg base 8 m_Person_leaving_at := by letI I2 : GdW := ⟨True⟩; exact mtF_mk (cl _ (by simp)) ⟨a12, i12, k12⟩ (ok_Person_leaving_at (P := l.prog) (w := w) (mg := mg) (base := base) F12 (C_Person := CU_Person) (hF := hF)) b12
  have MF_with_errand : @MtF I1 ⟨False⟩ l.prog w K mg base 8 m_Person_with_errand := by letI I2 : GdW := ⟨False⟩; exact mtF_mk (cl _ (by simp)) ⟨a13, i13, k13⟩ (ok_Person_with_errand (P := l.prog) (w := w) (mg := mg) (base := base) F13 (F_is_between := FF_is_between) (C_Person := CF_Person) (T_BadIndex := T_BadIndex) (z_len := z_len) (hF := hF)) b13
  have MU_with_errand : @MtF I1 ⟨True⟩ l.prog w K mg base 8 m_Person_with_errand := by letI I2 : GdW := ⟨True⟩; exact mtF_mk (cl _ (by simp)) ⟨a13, i13, k13⟩ (ok_Person_with_errand (P := l.prog) (w := w) (mg := mg) (base := base) F13 (F_is_between := FU_is_between) (C_Person := CU_Person) (T_BadIndex := T_BadIndex) (z_len := z_len) (hF := hF)) b13
  have FU__law_pool : @FrF I1 ⟨True⟩ l.prog w K mg base 1 "_law_pool" f__law_pool := by letI I2 : GdW := ⟨True⟩; exact frF_mk (by decide) (PySem.W.mg_of X G a14) k14 (ok__law_pool (P := l.prog) (w := w) (mg := mg) (base := base) F14 (z_len := z_len) (z_max := z_max) (z_int := z_int)) b14
  have FU__law_take : @FnF I1 ⟨True⟩ l.prog w K mg base 1 "_law_take" f__law_take := by letI I2 : GdW := ⟨True⟩; exact fnF_mk (by decide) (PySem.W.mg_of X G a15) k15 (ok__law_take (P := l.prog) (w := w) (mg := mg) (base := base) F15 (z_int := z_int)) b15
  have FU__law_one : @FnF I1 ⟨True⟩ l.prog w K mg base 2 "_law_one" f__law_one := by letI I2 : GdW := ⟨True⟩; exact fnF_mk (by decide) (PySem.W.mg_of X G a16) k16 (ok__law_one (P := l.prog) (w := w) (mg := mg) (base := base) F16 (F__law_take := FU__law_take) (z_len := z_len)) b16
  have FU__law_rounds : @FnF I1 ⟨True⟩ l.prog w K mg base 1 "_law_rounds" f__law_rounds := by letI I2 : GdW := ⟨True⟩; exact fnF_mk (by decide) (PySem.W.mg_of X G a17) k17 (ok__law_rounds (P := l.prog) (w := w) (mg := mg) (base := base) F17 (z_list := z_list) (z_range := z_range) (z_max := z_max) (z_min := z_min) (z_len := z_len)) b17
  have FU__law_drawn_errands : @FnF I1 ⟨True⟩ l.prog w K mg base 3 "_law_drawn_errands" f__law_drawn_errands := by letI I2 : GdW := ⟨True⟩; exact fnF_mk (by decide) (PySem.W.mg_of X G a18) k18 (ok__law_drawn_errands (P := l.prog) (w := w) (mg := mg) (base := base) F18 (F__law_take := FU__law_take) (F__law_one := FU__law_one) (z_range := z_range)) b18
  have FU__law_wrong_errands : @FnF I1 ⟨True⟩ l.prog w K mg base 1 "_law_wrong_errands" f__law_wrong_errands := by letI I2 : GdW := ⟨True⟩; exact fnF_mk (by decide) (PySem.W.mg_of X G a19) k19 (ok__law_wrong_errands (P := l.prog) (w := w) (mg := mg) (base := base) F19 ) b19
  have FU__law_refused : @FnF I1 ⟨True⟩ l.prog w K mg base 10 "_law_refused" f__law_refused := by letI I2 : GdW := ⟨True⟩; exact fnF_mk (by decide) (PySem.W.mg_of X G a20) k20 (ok__law_refused (P := l.prog) (w := w) (mg := mg) (base := base) F20 (F__law_one := FU__law_one) (F__law_wrong_errands := FU__law_wrong_errands) (F_is_errand := FU_is_errand) (LC_Person := CF_Person) (hgd := trivial) (T_BadPart := T_BadPart) (T_BadNumber := T_BadNumber) (T_BadName := T_BadName) (T_BadKey := T_BadKey) (T_BadErrand := T_BadErrand) (T_BadIndex := T_BadIndex) (T_BadOrder := T_BadOrder) (T_NoWay := T_NoWay) (EF__law_heard := EF__law_heard) (H__law_heard := H__law_heard) (LT := LT20) (z_repr := z_repr) (z_len := z_len)) b20
  have FU__law_changed_right : @FnF I1 ⟨True⟩ l.prog w K mg base 11 "_law_changed_right" f__law_changed_right := by letI I2 : GdW := ⟨True⟩; exact fnF_mk (by decide) (PySem.W.mg_of X G a21) k21 (ok__law_changed_right (P := l.prog) (w := w) (mg := mg) (base := base) F21 (F__law_one := FU__law_one) (M_leaving_at := MU_leaving_at) (M___eq__ := MU___eq__) (M_with_errand := MU_with_errand) (LM_leaving_at := MF_leaving_at) (LM_with_errand := MF_with_errand) (C_Person := CU_Person) (hgd := trivial) (T_BadPart := T_BadPart) (T_BadNumber := T_BadNumber) (T_BadName := T_BadName) (T_BadKey := T_BadKey) (T_BadErrand := T_BadErrand) (T_BadIndex := T_BadIndex) (T_BadOrder := T_BadOrder) (T_NoWay := T_NoWay) (EF__law_heard := EF__law_heard) (H__law_heard := H__law_heard) (LT := LT21) (z_repr := z_repr) (z_len := z_len) (z_range := z_range) (nf_Person := nf_Person) (hC := hC)) b21
  letI I2 : GdW := ⟨True⟩
  exact (ok_law (P := l.prog) (w := w) (mg := mg) (base := base) F22 (F__law_rounds := FU__law_rounds) (F__law_drawn_errands := FU__law_drawn_errands) (F_is_errand := FU_is_errand) (F__law_refused := FU__law_refused) (F__law_changed_right := FU__law_changed_right) (F__law_pool := FU__law_pool) (M_own_keys := MU_own_keys) (M___eq__ := MU___eq__) (C_Person := CU_Person) (C_Person_kw := CU_Person_kw) (z_list := z_list) (z_tuple := z_tuple) (z_range := z_range) (z_len := z_len) (nf_Person := nf_Person) (hC := hC) (hF := hF)).imp fun vs H Q E h => law_imp (fun ns hn => math ns hn) h
end Mp
open PySem PySem.W PyProof.Rows
theorem PySem.Challenge.cw_risingday_k16_people_told_and_refused_holds : PySem.Challenge.rw_risingday_k16_people_told_and_refused.Holds := by
  w_on; o_law; k_head; (case hw => w_witness2)
  k_fill
  letI I2 : Mp.GdW := ⟨True⟩
  refine Mp.walkG (l := PySem.Challenge.rw_risingday_k16_people_told_and_refused) (n := 63) (k := 12) (x := "_law_script") rfl (by rw [sizeLine_eq]; decide) rfl ⟨⟨rfl, by decide, by decide⟩, fun _ => rfl⟩ (fun w h Y => by first | exact PySem.W.kIn_of Y | exact PySem.W.km_in_of Y) ?F
  case F =>
    intro w mg mb fa h s0 Gr Y KX G hmg
    refine' Mp.all_mk KX G hmg (Mp.tab_at (x := "_law_refused") Gr KX ?r20 (Mp.tabIn_of ?a20 ?l20 rfl ?xc20 ?xp20)) (Mp.tab_at (x := "_law_changed_right") Gr KX ?r21 (Mp.tabIn_of ?a21 ?l21 rfl ?xc21 ?xp21)) ?aC_Person ?pgC_Person ?hdC_Person ?poC_Person ?saC_Person ?mkC_Person ?kcC_Person ?haC_Person ?hmC_Person ?nnameC_Person ?nhomeC_Person ?nleavesC_Person ?nerrandsC_Person ?oc_hn ?oc_ht ?aC_BadPart ?xC_BadPart ?saC_BadPart ?gaC_BadPart ?ggC_BadPart ?nbC_BadPart ?iC_BadPart ?tiC_BadPart ?lC_BadPart ?cC_BadPart ?kC_BadPart ?eC_BadPart ?tyC_BadPart ?hdC_BadPart ?icC_BadPart ?aC_BadNumber ?xC_BadNumber ?saC_BadNumber ?gaC_BadNumber ?ggC_BadNumber ?nbC_BadNumber ?iC_BadNumber ?tiC_BadNumber ?lC_BadNumber ?cC_BadNumber ?kC_BadNumber ?eC_BadNumber ?tyC_BadNumber ?hdC_BadNumber ?icC_BadNumber ?aC_BadIndex ?xC_BadIndex ?saC_BadIndex ?gaC_BadIndex ?ggC_BadIndex ?nbC_BadIndex ?iC_BadIndex ?tiC_BadIndex ?lC_BadIndex ?cC_BadIndex ?kC_BadIndex ?eC_BadIndex ?tyC_BadIndex ?hdC_BadIndex ?icC_BadIndex ?aC_BadName ?xC_BadName ?saC_BadName ?gaC_BadName ?ggC_BadName ?nbC_BadName ?iC_BadName ?tiC_BadName ?lC_BadName ?cC_BadName ?kC_BadName ?eC_BadName ?tyC_BadName ?hdC_BadName ?icC_BadName ?aC_BadKey ?xC_BadKey ?saC_BadKey ?gaC_BadKey ?ggC_BadKey ?nbC_BadKey ?iC_BadKey ?tiC_BadKey ?lC_BadKey ?cC_BadKey ?kC_BadKey ?eC_BadKey ?tyC_BadKey ?hdC_BadKey ?icC_BadKey ?aC_BadErrand ?xC_BadErrand ?saC_BadErrand ?gaC_BadErrand ?ggC_BadErrand ?nbC_BadErrand ?iC_BadErrand ?tiC_BadErrand ?lC_BadErrand ?cC_BadErrand ?kC_BadErrand ?eC_BadErrand ?tyC_BadErrand ?hdC_BadErrand ?icC_BadErrand ?aC_BadOrder ?xC_BadOrder ?saC_BadOrder ?gaC_BadOrder ?ggC_BadOrder ?nbC_BadOrder ?iC_BadOrder ?tiC_BadOrder ?lC_BadOrder ?cC_BadOrder ?kC_BadOrder ?eC_BadOrder ?tyC_BadOrder ?hdC_BadOrder ?icC_BadOrder ?aC_NoWay ?xC_NoWay ?saC_NoWay ?gaC_NoWay ?ggC_NoWay ?nbC_NoWay ?iC_NoWay ?tiC_NoWay ?lC_NoWay ?cC_NoWay ?kC_NoWay ?eC_NoWay ?tyC_NoWay ?hdC_NoWay ?icC_NoWay ?su_BadPart_BadPart ?su_BadPart_BadNumber ?su_BadPart_BadName ?su_BadPart_BadKey ?su_BadPart_BadErrand ?su_BadPart_BadIndex ?su_BadPart_BadOrder ?su_BadPart_NoWay ?su_BadNumber_BadPart ?su_BadNumber_BadNumber ?su_BadNumber_BadName ?su_BadNumber_BadKey ?su_BadNumber_BadErrand ?su_BadNumber_BadIndex ?su_BadNumber_BadOrder ?su_BadNumber_NoWay ?su_BadName_BadPart ?su_BadName_BadNumber ?su_BadName_BadName ?su_BadName_BadKey ?su_BadName_BadErrand ?su_BadName_BadIndex ?su_BadName_BadOrder ?su_BadName_NoWay ?su_BadKey_BadPart ?su_BadKey_BadNumber ?su_BadKey_BadName ?su_BadKey_BadKey ?su_BadKey_BadErrand ?su_BadKey_BadIndex ?su_BadKey_BadOrder ?su_BadKey_NoWay ?su_BadErrand_BadPart ?su_BadErrand_BadNumber ?su_BadErrand_BadName ?su_BadErrand_BadKey ?su_BadErrand_BadErrand ?su_BadErrand_BadIndex ?su_BadErrand_BadOrder ?su_BadErrand_NoWay ?su_BadIndex_BadPart ?su_BadIndex_BadNumber ?su_BadIndex_BadName ?su_BadIndex_BadKey ?su_BadIndex_BadErrand ?su_BadIndex_BadIndex ?su_BadIndex_BadOrder ?su_BadIndex_NoWay ?su_BadOrder_BadPart ?su_BadOrder_BadNumber ?su_BadOrder_BadName ?su_BadOrder_BadKey ?su_BadOrder_BadErrand ?su_BadOrder_BadIndex ?su_BadOrder_BadOrder ?su_BadOrder_NoWay ?su_NoWay_BadPart ?su_NoWay_BadNumber ?su_NoWay_BadName ?su_NoWay_BadKey ?su_NoWay_BadErrand ?su_NoWay_BadIndex ?su_NoWay_BadOrder ?su_NoWay_NoWay ?nfn_Person ?nfb_Person ?nfi_Person ?nfs_Person ?nfl_Person ?nft_Person ?nfd_Person ?nfe_Person ?Z_isinstance ?Z_int ?Z_bool ?Z_list ?Z_tuple ?Z_str ?Z_len ?Z_all ?Z_enumerate ?Z_max ?Z_range ?Z_min ?Z_repr ?N_LAST_MINUTE ?N_LONGEST ?N_LETTERS ?S_int_Person ?S_bool_Person ?S_list_Person ?S_tuple_Person ?S_str_Person ?iC_Person ?tC_Person ?a0 ?l0 ?c0 ?k0 ?a1 ?l1 ?c1 ?k1 ?a2 ?l2 ?c2 ?k2 ?a3 ?l3 ?c3 ?k3 ?a4 ?l4 ?c4 ?k4 ?a5 ?l5 ?c5 ?k5 ?a6 ?l6 ?c6 ?k6 ?a7 ?l7 ?c7 ?k7 ?a8 ?l8 ?c8 ?k8 ?a9 ?i9 ?l9 ?c9 ?k9 ?t9_ ?a10 ?i10 ?l10 ?c10 ?k10 ?a11 ?i11 ?l11 ?c11 ?k11 ?a12 ?i12 ?l12 ?c12 ?k12 ?a13 ?i13 ?l13 ?c13 ?k13 ?a14 ?l14 ?c14 ?k14 ?a15 ?l15 ?c15 ?k15 ?a16 ?l16 ?c16 ?k16 ?a17 ?l17 ?c17 ?k17 ?a18 ?l18 ?c18 ?k18 ?a19 ?l19 ?c19 ?k19 ?a20 ?l20 ?c20 ?k20 ?xc20 ?xp20 ?n20 ?a21 ?l21 ?c21 ?k21 ?xc21 ?xp21 ?n21 ?d20_21 ?a22 ?l22 ?c22 ?k22 ?aH0 ?lH0 ?cH0 ?kH0 Mp.math
    (case aC_Person => k_is)
    (case pgC_Person => k_is)
    (case hdC_Person => k_is)
    (case poC_Person => k_is)
    (case saC_Person => k_is)
    (case mkC_Person => k_is)
    (case kcC_Person => k_is)
    (case haC_Person => k_is)
    (case hmC_Person => k_is)
    (case nnameC_Person => k_is)
    (case nhomeC_Person => k_is)
    (case nleavesC_Person => k_is)
    (case nerrandsC_Person => k_is)
    (case oc_hn => k_is)
    (case oc_ht => k_is)
    (case aC_BadPart => k_is)
    (case xC_BadPart => k_is)
    (case saC_BadPart => k_is)
    (case gaC_BadPart => k_is)
    (case ggC_BadPart => k_is)
    (case nbC_BadPart => k_is)
    (case iC_BadPart => k_is)
    (case tiC_BadPart => k_is)
    (case lC_BadPart => k_is)
    (case cC_BadPart => k_is)
    (case kC_BadPart => k_is)
    (case eC_BadPart => k_is)
    (case tyC_BadPart => k_is)
    (case hdC_BadPart => k_is)
    (case icC_BadPart => k_is)
    (case aC_BadNumber => k_is)
    (case xC_BadNumber => k_is)
    (case saC_BadNumber => k_is)
    (case gaC_BadNumber => k_is)
    (case ggC_BadNumber => k_is)
    (case nbC_BadNumber => k_is)
    (case iC_BadNumber => k_is)
    (case tiC_BadNumber => k_is)
    (case lC_BadNumber => k_is)
    (case cC_BadNumber => k_is)
    (case kC_BadNumber => k_is)
    (case eC_BadNumber => k_is)
    (case tyC_BadNumber => k_is)
    (case hdC_BadNumber => k_is)
    (case icC_BadNumber => k_is)
    (case aC_BadIndex => k_is)
    (case xC_BadIndex => k_is)
    (case saC_BadIndex => k_is)
    (case gaC_BadIndex => k_is)
    (case ggC_BadIndex => k_is)
    (case nbC_BadIndex => k_is)
    (case iC_BadIndex => k_is)
    (case tiC_BadIndex => k_is)
    (case lC_BadIndex => k_is)
    (case cC_BadIndex => k_is)
    (case kC_BadIndex => k_is)
    (case eC_BadIndex => k_is)
    (case tyC_BadIndex => k_is)
    (case hdC_BadIndex => k_is)
    (case icC_BadIndex => k_is)
    (case aC_BadName => k_is)
    (case xC_BadName => k_is)
    (case saC_BadName => k_is)
    (case gaC_BadName => k_is)
    (case ggC_BadName => k_is)
    (case nbC_BadName => k_is)
    (case iC_BadName => k_is)
    (case tiC_BadName => k_is)
    (case lC_BadName => k_is)
    (case cC_BadName => k_is)
    (case kC_BadName => k_is)
    (case eC_BadName => k_is)
    (case tyC_BadName => k_is)
    (case hdC_BadName => k_is)
    (case icC_BadName => k_is)
    (case aC_BadKey => k_is)
    (case xC_BadKey => k_is)
    (case saC_BadKey => k_is)
    (case gaC_BadKey => k_is)
    (case ggC_BadKey => k_is)
    (case nbC_BadKey => k_is)
    (case iC_BadKey => k_is)
    (case tiC_BadKey => k_is)
    (case lC_BadKey => k_is)
    (case cC_BadKey => k_is)
    (case kC_BadKey => k_is)
    (case eC_BadKey => k_is)
    (case tyC_BadKey => k_is)
    (case hdC_BadKey => k_is)
    (case icC_BadKey => k_is)
    (case aC_BadErrand => k_is)
    (case xC_BadErrand => k_is)
    (case saC_BadErrand => k_is)
    (case gaC_BadErrand => k_is)
    (case ggC_BadErrand => k_is)
    (case nbC_BadErrand => k_is)
    (case iC_BadErrand => k_is)
    (case tiC_BadErrand => k_is)
    (case lC_BadErrand => k_is)
    (case cC_BadErrand => k_is)
    (case kC_BadErrand => k_is)
    (case eC_BadErrand => k_is)
    (case tyC_BadErrand => k_is)
    (case hdC_BadErrand => k_is)
    (case icC_BadErrand => k_is)
    (case aC_BadOrder => k_is)
    (case xC_BadOrder => k_is)
    (case saC_BadOrder => k_is)
    (case gaC_BadOrder => k_is)
    (case ggC_BadOrder => k_is)
    (case nbC_BadOrder => k_is)
    (case iC_BadOrder => k_is)
    (case tiC_BadOrder => k_is)
    (case lC_BadOrder => k_is)
    (case cC_BadOrder => k_is)
    (case kC_BadOrder => k_is)
    (case eC_BadOrder => k_is)
    (case tyC_BadOrder => k_is)
    (case hdC_BadOrder => k_is)
    (case icC_BadOrder => k_is)
    (case aC_NoWay => k_is)
    (case xC_NoWay => k_is)
    (case saC_NoWay => k_is)
    (case gaC_NoWay => k_is)
    (case ggC_NoWay => k_is)
    (case nbC_NoWay => k_is)
    (case iC_NoWay => k_is)
    (case tiC_NoWay => k_is)
    (case lC_NoWay => k_is)
    (case cC_NoWay => k_is)
    (case kC_NoWay => k_is)
    (case eC_NoWay => k_is)
    (case tyC_NoWay => k_is)
    (case hdC_NoWay => k_is)
    (case icC_NoWay => k_is)
    (case su_BadPart_BadPart => k_is)
    (case su_BadPart_BadNumber => k_is)
    (case su_BadPart_BadName => k_is)
    (case su_BadPart_BadKey => k_is)
    (case su_BadPart_BadErrand => k_is)
    (case su_BadPart_BadIndex => k_is)
    (case su_BadPart_BadOrder => k_is)
    (case su_BadPart_NoWay => k_is)
    (case su_BadNumber_BadPart => k_is)
    (case su_BadNumber_BadNumber => k_is)
    (case su_BadNumber_BadName => k_is)
    (case su_BadNumber_BadKey => k_is)
    (case su_BadNumber_BadErrand => k_is)
    (case su_BadNumber_BadIndex => k_is)
    (case su_BadNumber_BadOrder => k_is)
    (case su_BadNumber_NoWay => k_is)
    (case su_BadName_BadPart => k_is)
    (case su_BadName_BadNumber => k_is)
    (case su_BadName_BadName => k_is)
    (case su_BadName_BadKey => k_is)
    (case su_BadName_BadErrand => k_is)
    (case su_BadName_BadIndex => k_is)
    (case su_BadName_BadOrder => k_is)
    (case su_BadName_NoWay => k_is)
    (case su_BadKey_BadPart => k_is)
    (case su_BadKey_BadNumber => k_is)
    (case su_BadKey_BadName => k_is)
    (case su_BadKey_BadKey => k_is)
    (case su_BadKey_BadErrand => k_is)
    (case su_BadKey_BadIndex => k_is)
    (case su_BadKey_BadOrder => k_is)
    (case su_BadKey_NoWay => k_is)
    (case su_BadErrand_BadPart => k_is)
    (case su_BadErrand_BadNumber => k_is)
    (case su_BadErrand_BadName => k_is)
    (case su_BadErrand_BadKey => k_is)
    (case su_BadErrand_BadErrand => k_is)
    (case su_BadErrand_BadIndex => k_is)
    (case su_BadErrand_BadOrder => k_is)
    (case su_BadErrand_NoWay => k_is)
    (case su_BadIndex_BadPart => k_is)
    (case su_BadIndex_BadNumber => k_is)
    (case su_BadIndex_BadName => k_is)
    (case su_BadIndex_BadKey => k_is)
    (case su_BadIndex_BadErrand => k_is)
    (case su_BadIndex_BadIndex => k_is)
    (case su_BadIndex_BadOrder => k_is)
    (case su_BadIndex_NoWay => k_is)
    (case su_BadOrder_BadPart => k_is)
    (case su_BadOrder_BadNumber => k_is)
    (case su_BadOrder_BadName => k_is)
    (case su_BadOrder_BadKey => k_is)
    (case su_BadOrder_BadErrand => k_is)
    (case su_BadOrder_BadIndex => k_is)
    (case su_BadOrder_BadOrder => k_is)
    (case su_BadOrder_NoWay => k_is)
    (case su_NoWay_BadPart => k_is)
    (case su_NoWay_BadNumber => k_is)
    (case su_NoWay_BadName => k_is)
    (case su_NoWay_BadKey => k_is)
    (case su_NoWay_BadErrand => k_is)
    (case su_NoWay_BadIndex => k_is)
    (case su_NoWay_BadOrder => k_is)
    (case su_NoWay_NoWay => k_is)
    (case nfn_Person => k_is)
    (case nfb_Person => k_is)
    (case nfi_Person => k_is)
    (case nfs_Person => k_is)
    (case nfl_Person => k_is)
    (case nft_Person => k_is)
    (case nfd_Person => k_is)
    (case nfe_Person => k_is)
    (case Z_isinstance => k_is)
    (case Z_int => k_is)
    (case Z_bool => k_is)
    (case Z_list => k_is)
    (case Z_tuple => k_is)
    (case Z_str => k_is)
    (case Z_len => k_is)
    (case Z_all => k_is)
    (case Z_enumerate => k_is)
    (case Z_max => k_is)
    (case Z_range => k_is)
    (case Z_min => k_is)
    (case Z_repr => k_is)
    (case N_LAST_MINUTE => k_is)
    (case N_LONGEST => k_is)
    (case N_LETTERS => k_is)
    (case S_int_Person => k_is)
    (case S_bool_Person => k_is)
    (case S_list_Person => k_is)
    (case S_tuple_Person => k_is)
    (case S_str_Person => k_is)
    (case iC_Person => k_is)
    (case tC_Person => k_is)
    (case a0 => k_is)
    (case l0 => k_is)
    (case c0 => k_is)
    (case k0 => k_is)
    (case a1 => k_is)
    (case l1 => k_is)
    (case c1 => k_is)
    (case k1 => k_is)
    (case a2 => k_is)
    (case l2 => k_is)
    (case c2 => k_is)
    (case k2 => k_is)
    (case a3 => k_is)
    (case l3 => k_is)
    (case c3 => k_is)
    (case k3 => k_is)
    (case a4 => k_is)
    (case l4 => k_is)
    (case c4 => k_is)
    (case k4 => k_is)
    (case a5 => k_is)
    (case l5 => k_is)
    (case c5 => k_is)
    (case k5 => k_is)
    (case a6 => k_is)
    (case l6 => k_is)
    (case c6 => k_is)
    (case k6 => k_is)
    (case a7 => k_is)
    (case l7 => k_is)
    (case c7 => k_is)
    (case k7 => k_is)
    (case a8 => k_is)
    (case l8 => k_is)
    (case c8 => k_is)
    (case k8 => k_is)
    (case a9 => k_is)
    (case i9 => k_is)
    (case l9 => k_is)
    (case c9 => k_is)
    (case k9 => k_is)
    (case t9_ => k_is)
    (case a10 => k_is)
    (case i10 => k_is)
    (case l10 => k_is)
    (case c10 => k_is)
    (case k10 => k_is)
    (case a11 => k_is)
    (case i11 => k_is)
    (case l11 => k_is)
    (case c11 => k_is)
    (case k11 => k_is)
    (case a12 => k_is)
    (case i12 => k_is)
    (case l12 => k_is)
    (case c12 => k_is)
    (case k12 => k_is)
    (case a13 => k_is)
    (case i13 => k_is)
    (case l13 => k_is)
    (case c13 => k_is)
    (case k13 => k_is)
    (case a14 => k_is)
    (case l14 => k_is)
    (case c14 => k_is)
    (case k14 => k_is)
    (case a15 => k_is)
    (case l15 => k_is)
    (case c15 => k_is)
    (case k15 => k_is)
    (case a16 => k_is)
    (case l16 => k_is)
    (case c16 => k_is)
    (case k16 => k_is)
    (case a17 => k_is)
    (case l17 => k_is)
    (case c17 => k_is)
    (case k17 => k_is)
    (case a18 => k_is)
    (case l18 => k_is)
    (case c18 => k_is)
    (case k18 => k_is)
    (case a19 => k_is)
    (case l19 => k_is)
    (case c19 => k_is)
    (case k19 => k_is)
    (case a20 => k_is)
    (case l20 => k_is)
    (case c20 => k_is)
    (case k20 => k_is)
    (case xc20 => k_is)
    (case xp20 => rfl)
    (case n20 => kernel_rfl)
    (case a21 => k_is)
    (case l21 => k_is)
    (case c21 => k_is)
    (case k21 => k_is)
    (case xc21 => k_is)
    (case xp21 => rfl)
    (case n21 => kernel_rfl)
    (case d20_21 => decide)
    (case a22 => k_is)
    (case l22 => k_is)
    (case c22 => k_is)
    (case k22 => k_is)
    (case aH0 => k_is)
    (case lH0 => k_is)
    (case cH0 => k_is)
    (case kH0 => k_is)
    (case r20 => rfl)
    (case r21 => rfl)
