import PyProof.Rows.All
import Wide.All
import OpenK.AllK
import Wide.FinOn
import HandS.ForMost
import HandS.Style
import HandS.IsInst
import HandS.More
import HandS.Evl
import HandS.Zip
import HandS.Walk
import HandS.SetFor
import HandS.Defaults
import HandS.ForExc
import HandS.CallSlots
import HandS.SlotsOwn
import HandS.OwnIter
import HandS.IterNext
import HandS.ClsMeth
import HandS.Deep
import KE.KExcSuper
import HandS.ExcInit
import HandS.Nested
import HandS.ExcField
import HandS.ExcIs
import HandS.TryMany
import HandS.TryOnly
import HandS.ExcOwn
import HandS.WordsExc
import KE.KExcIs
import HandS.Exc
import HandS.Sort
import KE.KDictCopyH
import HandS.DictComp
import HandS.Comp
import KE.GoesComp2
import HandS.Star
import KE.KDictKeyed
import KE.KeyNested
import KE.KDictDisplayH
import PyProof.Rows.SortStr
import PySem.Challenge.RW_coretower_k16_whole_parting_rows
import HandS.TupSets
import HandS.SortRule
import HandS.TupLe
import KE.RegKSuper
set_option Elab.async false
set_option linter.all false
set_option maxRecDepth 100000
set_option maxHeartbeats 4000000
/-! ### small things over the layer: frames, loops, tests -/
namespace My
open PySem L2
section
variable {P : Program} {w : World} {K : PySem.W.Frag} {mg : Str → Option Value} {base : Heap}
/-- a def of the text, where it stands -/
structure Df (K : PySem.W.Frag) (mg : Str → Option Value) (x : Str) (st : Stmt) (ps : List Str) (f : Addr) (fd : FuncData) : Prop where
  F : Fun K x x st f fd
  g : mg x = some (.ref f)
  b : Binds K fd ps []
theorem cxK {CX : CXT} {N : List Str} {q : Str} {sc : Scope} {f : Addr} {cdv : Value} {A : Around} {outer : List Env} {s : Shared} {H : Hp} {E : XK} : (cxOf CX P w K mg base N q sc f cdv A outer s H E).K = K := rfl
theorem cxnK {CX : CXT} {N : List Str} {q : Str} {sc : Scope} {f : Addr} {cdv : Value} {A : Around} {outer : List Env} {s : Shared} {H : Hp} {E : XK} : (cxOf CX P w K mg base N q sc f cdv A outer s H E).nox.K = K := rfl
end
/-! ### frames -/
/-- what stood outside of S stands as it did -/
def Kp (S : List Addr) (H H' : Hp) : Prop := ∀ b o, b ∉ S → H b = some o → H' b = some o
theorem Kp.refl (S : List Addr) (H : Hp) : Kp S H H := fun _ _ _ h => h
theorem Kp.trans {S : List Addr} {H H1 H2 : Hp} (a : Kp S H H1) (b : Kp S H1 H2) : Kp S H H2 := fun c o hc h => b c o hc (a c o hc h)
theorem Kp.mono {S T : List Addr} {H H' : Hp} (a : Kp S H H') (h : ∀ x ∈ S, x ∈ T) : Kp T H H' := fun c o hc e => a c o (fun z => hc (h c z)) e
theorem Kp.of0 {T : List Addr} {H H' : Hp} (a : Kp [] H H') : Kp T H H' := a.mono fun x hx => nomatch hx
theorem Kp.new {S : List Addr} {H : Hp} {p : Addr} {o : HO} (h : H p = none) : Kp S H (upd H p o) := fun a u _ e => by
  rw [upd_ne (ne_of_none e h)]
  exact e
/-- a write to something that was not there at the beginning -/
theorem Kp.wr {S : List Addr} {H H' : Hp} {p : Addr} {o : HO} (a : Kp S H H') (h : H p = none) : Kp S H (upd H' p o) := fun b u hb e => by
  rw [upd_ne (ne_of_none e h)]
  exact a b u hb e
theorem Kp.put {S : List Addr} {H H' : Hp} {p : Addr} {o : HO} (a : Kp S H H') (h : p ∈ S) : Kp S H (upd H' p o) := fun b u hb e => by
  rw [upd_ne (fun z => hb (by rw [z]; exact h))]
  exact a b u hb e
theorem Kp.ls {S : List Addr} {K : PySem.W.Frag} {H H' : Hp} {a : Addr} {xs : List V} (k : Kp S H H') (ha : a ∉ S) (h : SqL K H a xs) : SqL K H' a xs := by
  rcases h with (h | ⟨o, h⟩) | h
  · exact .inl (.inl (k _ _ ha h))
  · exact .inl (.inr ⟨o, k _ _ ha h⟩)
  · exact .inr h
theorem Kp.tp {S : List Addr} {K : PySem.W.Frag} {H H' : Hp} {a : Addr} {xs : List V} (k : Kp S H H') (ha : a ∉ S) (h : SqT K H a xs) : SqT K H' a xs := by
  rcases h with (h | ⟨o, h⟩) | h
  · exact .inl (.inl (k _ _ ha h))
  · exact .inl (.inr ⟨o, k _ _ ha h⟩)
  · exact .inr h
theorem Kp.free {S : List Addr} {H H' : Hp} {p : Addr} (k : Kp S H H') (hp : H' p = none) (hs : ∀ a ∈ S, ∃ o, H' a = some o) : H p = none := by
  cases e : H p with
  | none => rfl
  | some o =>
    by_cases h : p ∈ S
    · obtain ⟨u, hu⟩ := hs p h
      rw [hp] at hu; cases hu
    · rw [k p o h e] at hp; cases hp
theorem Kp.free0 {H H' : Hp} {p : Addr} (k : Kp [] H H') (hp : H' p = none) : H p = none := k.free hp fun a h => nomatch h
theorem not1 {a b : Addr} (h : b ≠ a) : b ∉ [a] := fun z => h (List.mem_singleton.mp z)
theorem not0 {b : Addr} : b ∉ ([] : List Addr) := fun z => nomatch z
theorem sq_l {K : PySem.W.Frag} {H : Hp} {a : Addr} {xs : List V} (h : H a = some (.lst xs)) : SqL K H a xs := .inl (.inl h)
theorem sq_t {K : PySem.W.Frag} {H : Hp} {a : Addr} {xs : List V} (h : H a = some (.tup xs)) : SqT K H a xs := .inl (.inl h)
theorem small {n : Nat} (h : n ≤ 100000) : n ≤ sizeLine := Nat.le_trans h (by decide)
theorem smallL {n : Nat} (h : n ≤ 100000) : n < sizeLine := Nat.lt_of_le_of_lt h (by decide)
theorem ne_kind {H : Hp} {a b : Addr} {o u : HO} (h : H a = some o) (h' : H b = some u) (d : o ≠ u) : a ≠ b := ne_of h h' d
/-! ### subscripts -/
theorem atI_of {α : Type} {xs : List α} {i : Int} {v : α} (h0 : 0 ≤ i) (h : xs[i.toNat]? = some v) : atI xs i = some v := by
  have e := atI_nat h
  rwa [Int.toNat_of_nonneg h0] at e
theorem ixN_of {n : Nat} {i : Int} (h0 : 0 ≤ i) (h : i < n) : ixN n i = some i.toNat := by
  unfold ixN
  rw [if_pos h0, if_pos h]
theorem atI_ex {α : Type} {xs : List α} {i : Int} (h0 : 0 ≤ i) (h : i < xs.length) : ∃ v, v ∈ xs ∧ atI xs i = some v := by
  have hl : i.toNat < xs.length := by omega
  exact ⟨xs[i.toNat], List.getElem_mem hl, atI_of h0 (List.getElem?_eq_getElem hl)⟩
/-! ### isinstance -/
section
variable {K : PySem.W.Frag} {H : Hp} {Q : VK}
theorem isi_mk {x : V} {n m : String} {b : Bool} (h : TyOf K H x (.type n)) (k : kitB n m = some b) (q : Q (.bl b) H) : rIsi K [x, .ty m] H Q := ⟨x, _, _, _, b, rfl, .ty m, .base h, kit_ty k, q⟩
theorem isi_int_str {i : Int} (q : Q (.bl false) H) : rIsi K [.int i, .ty "str"] H Q := isi_mk (.int i) (by decide +kernel) q
theorem isi_str_str {i : Str} (q : Q (.bl true) H) : rIsi K [.str i, .ty "str"] H Q := isi_mk (.str i) (by decide +kernel) q
theorem isi_int_int {i : Int} (q : Q (.bl true) H) : rIsi K [.int i, .ty "int"] H Q := isi_mk (.int i) (by decide +kernel) q
theorem isi_int_bool {i : Int} (q : Q (.bl false) H) : rIsi K [.int i, .ty "bool"] H Q := isi_mk (.int i) (by decide +kernel) q
theorem isi_bl_bool {i : Bool} (q : Q (.bl true) H) : rIsi K [.bl i, .ty "bool"] H Q := isi_mk (.bl i) (by decide +kernel) q
end
theorem sc_ii {i j : Int} : scal (.int i) (.int j) = true := rfl
theorem sc_ss {i j : Str} : scal (.str i) (.str j) = true := rfl
theorem sc_bb {i j : Bool} : scal (.bl i) (.bl j) = true := rfl
theorem sc_ni {j : Int} : scal .non (.int j) = true := rfl
theorem sc_in {j : Int} : scal (.int j) .non = true := rfl
theorem sc_is {i : Int} {j : Str} : scal (.int i) (.str j) = true := rfl
theorem sc_si {i : Int} {j : Str} : scal (.str j) (.int i) = true := rfl
theorem sc_nn : scal .non .non = true := rfl
/-! ### loops -/
section
variable {K : PySem.W.Frag} {g : TG} {tb : TS} {D : Ends} {σ : St} {H : Hp}
theorem forL {a : Addr} {xs : List V} {i : Nat} (Pv : Nat → L2.St → Hp → Prop) (hσ : σ[i]? = some (some (.ref a))) (hS : SqL K H a xs) (h0 : Pv 0 σ H) (hl : ∀ j σ H, j ≤ xs.length → Pv j σ H → SqL K H a xs)
    (hs : ∀ j x σ H, xs[j]? = some x → Pv j σ H → g x σ H fun σ2 H2 => tb { D with nx := Pv (j + 1), ct := Pv (j + 1), bk := D.nx } σ2 H2) (hd : ∀ σ H, Pv xs.length σ H → D.nx σ H) : tFor (iList K (tVar i)) g tb D σ H :=
  ⟨_, hσ, a, rfl, ⟨xs, hS⟩, for_list Pv h0 hl hs hd⟩
theorem forT {a : Addr} {xs : List V} {i : Nat} (Pv : Nat → L2.St → Hp → Prop) (hσ : σ[i]? = some (some (.ref a))) (hS : SqT K H a xs) (h0 : Pv 0 σ H) (hl : ∀ j σ H, j ≤ xs.length → Pv j σ H → SqT K H a xs)
    (hs : ∀ j x σ H, xs[j]? = some x → Pv j σ H → g x σ H fun σ2 H2 => tb { D with nx := Pv (j + 1), ct := Pv (j + 1), bk := D.nx } σ2 H2) (hd : ∀ σ H, Pv xs.length σ H → D.nx σ H) : tFor (iTup K (tVar i)) g tb D σ H :=
  ⟨_, hσ, a, rfl, ⟨xs, hS⟩, for_tup Pv h0 hl hs hd⟩
/-- behind the reckoning of the bound: range(m) -/
theorem forR {ta : TA} {Qx : Hp → Int → Prop} (h : ta σ H fun vs H1 => ∃ m : Int, vs = [.int m] ∧ -(2 ^ 62) ≤ m ∧ m < 2 ^ 62 ∧ ∃ Pv : Nat → L2.St → Hp → Prop, Pv 0 σ H1 ∧
    (∀ j σ H, j < m.toNat → Pv j σ H → g (.int (0 + j)) σ H fun σ2 H2 => tb { D with nx := Pv (j + 1), ct := Pv (j + 1), bk := D.nx } σ2 H2) ∧ (∀ σ H, Pv m.toNat σ H → D.nx σ H))
    (mono : ∀ Q Q' : List V → Hp → Prop, (∀ vs H, Q vs H → Q' vs H) → ta σ H Q → ta σ H Q') : tFor (iRng1 ta) g tb D σ H := by
  refine mono _ _ ?_ h
  rintro vs H1 ⟨m, e, h1, h2, Pv, a, b, c⟩
  exact ⟨m, e, h1, h2, for_range Pv a b c⟩
end
/-! ### dicts -/
section
variable {κ : Type} [DecidableEq κ]
theorem keys_putK (kvs : List (κ × V)) (k : κ) (v : V) (h : (kvs.map (·.1)).Nodup) : ((putK kvs k v).map (·.1)).Nodup := by
  cases e : valV kvs k with
  | none => exact nd_putK v h e
  | some y =>
    have ha : (kvs.any fun kv => decide (kv.1 = k)) = true := by
      unfold valV at e
      cases q : kvs.find? fun kv => decide (kv.1 = k) with
      | none => rw [q] at e; cases e
      | some p => exact List.any_eq_true.mpr ⟨p, List.mem_of_find?_eq_some q, by simpa using List.find?_some q⟩
    unfold putK
    rw [if_pos ha, List.map_map]
    have e2 : ((fun kv : κ × V => kv.1) ∘ fun kv : κ × V => if kv.1 = k then (kv.1, v) else kv) = fun kv => kv.1 := by
      funext p
      show (if p.1 = k then (p.1, v) else p).1 = p.1
      split <;> rfl
    rw [e2]
    exact h
theorem mem_putK {kvs : List (κ × V)} {k : κ} {v : V} {p : κ × V} (h : p ∈ putK kvs k v) : p ∈ kvs ∨ p = (k, v) := by
  unfold putK at h
  split at h
  · obtain ⟨q, hq, e⟩ := List.mem_map.mp h
    split at e
    · rename_i hk
      exact .inr (by rw [← e, hk])
    · exact .inl (by rw [← e]; exact hq)
  · rcases List.mem_append.mp h with h | h
    · exact .inl h
    · exact .inr (List.mem_singleton.mp h)
theorem valV_mem {kvs : List (κ × V)} {k : κ} {v : V} (h : (kvs.map (·.1)).Nodup) (hm : (k, v) ∈ kvs) : valV kvs k = some v := by
  induction kvs with
  | nil => nomatch hm
  | cons p r ih =>
    rw [List.map_cons, List.nodup_cons] at h
    by_cases e : p.1 = k
    · rw [valV_pos e]
      rcases List.mem_cons.mp hm with z | z
      · rw [← z]
      · exact absurd (List.mem_map.mpr ⟨_, z, rfl⟩) (by rw [← e]; exact h.1)
    · rw [valV_neg e]
      rcases List.mem_cons.mp hm with z | z
      · exact absurd (by rw [← z]) e
      · exact ih h.2 z
end
end My

set_option Elab.async false
set_option linter.all false
set_option maxRecDepth 100000
set_option maxHeartbeats 4000000
namespace My
open PySem L2
/-! ### data that stands in tracked tuples and lists -/
mutual
inductive Dq (H : Hp) : V → PyData → Prop
  | non : Dq H .non .none
  | bl (b : Bool) : Dq H (.bl b) (.bool b)
  | int (i : Int) : Dq H (.int i) (.int i)
  | str (x : Str) : Dq H (.str x) (.str x)
  | lst {a : Addr} {xs : List V} {ds : List PyData} : H a = some (.lst xs) → DqAll H xs ds → Dq H (.ref a) (.list ds)
  | tup {a : Addr} {xs : List V} {ds : List PyData} : H a = some (.tup xs) → DqAll H xs ds → Dq H (.ref a) (.tuple ds)
inductive DqAll (H : Hp) : List V → List PyData → Prop
  | nil : DqAll H [] []
  | cons {v : V} {vs : List V} {d : PyData} {ds : List PyData} : Dq H v d → DqAll H vs ds → DqAll H (v :: vs) (d :: ds)
end
mutual
theorem Dq.kp {H H' : Hp} (k : Kp [] H H') : ∀ {d : PyData} {v : V}, Dq H v d → Dq H' v d
  | _, _, .non => .non
  | _, _, .bl b => .bl b
  | _, _, .int i => .int i
  | _, _, .str x => .str x
  | _, _, .lst e h => .lst (k _ _ not0 e) (DqAll.kp k h)
  | _, _, .tup e h => .tup (k _ _ not0 e) (DqAll.kp k h)
theorem DqAll.kp {H H' : Hp} (k : Kp [] H H') : ∀ {ds : List PyData} {vs : List V}, DqAll H vs ds → DqAll H' vs ds
  | _, _, .nil => .nil
  | _, _, .cons h t => .cons (Dq.kp k h) (DqAll.kp k t)
end
mutual
theorem Dq.dp {K : PySem.W.Frag} {H : Hp} : ∀ {d : PyData} {v : V}, Dq H v d → Dp K H v d
  | _, _, .non => .non
  | _, _, .bl b => .bl b
  | _, _, .int i => .int i
  | _, _, .str x => .str x
  | _, _, .lst e h => .lst (sq_l e) (DqAll.dp h)
  | _, _, .tup e h => .tup (sq_t e) (DqAll.dp h)
theorem DqAll.dp {K : PySem.W.Frag} {H : Hp} : ∀ {ds : List PyData} {vs : List V}, DqAll H vs ds → DpAll K H vs ds
  | _, _, .nil => .nil
  | _, _, .cons h t => .cons (Dq.dp h) (DqAll.dp t)
end
theorem DqAll.len {H : Hp} : ∀ {ds : List PyData} {vs : List V}, DqAll H vs ds → vs.length = ds.length
  | _, _, .nil => rfl
  | _, _, .cons h t => by rw [List.length_cons, List.length_cons, t.len]
theorem DqAll.get {H : Hp} : ∀ {ds : List PyData} {vs : List V}, DqAll H vs ds → ∀ {i : Nat} {v : V}, vs[i]? = some v → ∃ d, ds[i]? = some d ∧ Dq H v d
  | _, _, .nil, _, _, e => nomatch e
  | _, _, .cons h t, 0, _, e => by cases e; exact ⟨_, rfl, h⟩
  | _, _, .cons h t, i + 1, _, e => t.get (i := i) e
/-- its class -/
def tyD : PyData → String
  | .none => "NoneType"
  | .bool _ => "bool"
  | .int _ => "int"
  | .str _ => "str"
  | .list _ => "list"
  | .tuple _ => "tuple"
  | _ => "object"
theorem Dq.ty {K : PySem.W.Frag} {H : Hp} {v : V} {d : PyData} (h : Dq H v d) : TyOf K H v (.type (tyD d)) := by
  cases h with
  | non => exact .non
  | bl b => exact .bl b
  | int i => exact .int i
  | str x => exact .str x
  | lst e h => exact .lst e
  | tup e h => exact .tup e
def six (d : PyData) : Prop := match d with
  | .none | .bool _ | .int _ | .str _ | .list _ | .tuple _ => True
  | _ => False
theorem Dq.six {H : Hp} {v : V} {d : PyData} (h : Dq H v d) : six d := by
  cases h <;> exact True.intro
def isStrD : PyData → Bool | .str _ => true | _ => false
def isTupD : PyData → Bool | .tuple _ => true | _ => false
def isLstD : PyData → Bool | .list _ => true | _ => false
def isIntD : PyData → Bool | .int _ | .bool _ => true | _ => false
def isBoolD : PyData → Bool | .bool _ => true | _ => false
section
variable {K : PySem.W.Frag} {H : Hp} {Q : VK} {v : V} {d : PyData}
theorem isi_D (h : Dq H v d) {m : String} {b : Bool} (k : kitB (tyD d) m = some b) (q : Q (.bl b) H) : rIsi K [v, .ty m] H Q := isi_mk h.ty k q
theorem isi_Dstr (h : Dq H v d) (q : Q (.bl (isStrD d)) H) : rIsi K [v, .ty "str"] H Q := isi_D h (by cases h <;> simp only [tyD, isStrD, isTupD, isLstD, isIntD, isBoolD] <;> decide +kernel) q
theorem isi_Dtup (h : Dq H v d) (q : Q (.bl (isTupD d)) H) : rIsi K [v, .ty "tuple"] H Q := isi_D h (by cases h <;> simp only [tyD, isStrD, isTupD, isLstD, isIntD, isBoolD] <;> decide +kernel) q
theorem isi_Dlst (h : Dq H v d) (q : Q (.bl (isLstD d)) H) : rIsi K [v, .ty "list"] H Q := isi_D h (by cases h <;> simp only [tyD, isStrD, isTupD, isLstD, isIntD, isBoolD] <;> decide +kernel) q
theorem isi_Dint (h : Dq H v d) (q : Q (.bl (isIntD d)) H) : rIsi K [v, .ty "int"] H Q := isi_D h (by cases h <;> simp only [tyD, isStrD, isTupD, isLstD, isIntD, isBoolD] <;> decide +kernel) q
theorem isi_Dbool (h : Dq H v d) (q : Q (.bl (isBoolD d)) H) : rIsi K [v, .ty "bool"] H Q := isi_D h (by cases h <;> simp only [tyD, isStrD, isTupD, isLstD, isIntD, isBoolD] <;> decide +kernel) q
end
/-! ### xs.remove(text) -/
def eqs (z : Str) (v : Value) : Bool := match v with
  | .str y _ => y == z
  | _ => false
theorem str_beq' (w z : Str) : (w == z) = (w.cps.toList == z.cps.toList) := by
  rw [Bool.eq_iff_iff, beq_iff_eq, beq_iff_eq]
  constructor
  · rintro rfl; rfl
  · intro h
    obtain ⟨a⟩ := w
    obtain ⟨b⟩ := z
    obtain ⟨a⟩ := a
    obtain ⟨b⟩ := b
    have h' : a = b := h
    rw [h']
def rRemS : V → List V → Hp → VK → Prop := fun x xs H Q => ∃ (l : Addr) (zs : List Str) (z : Str) (j : Nat), x = .ref l ∧ xs = [.str z] ∧ H l = some (.lst (zs.map V.str)) ∧ zs[j]? = some z ∧ (∀ m : Nat, m < j → zs[m]? ≠ some z) ∧ Q .non (upd H l (.lst ((zs.eraseIdx j).map V.str)))
theorem vals_str : ∀ {zs : List Str} {us : List Value}, Vals (zs.map V.str) us → ∀ {i : Nat} {u : Value}, us[i]? = some u → ∃ y t, u = .str y t ∧ zs[i]? = some y
  | [], _, r, _, _, e => by cases r; cases e
  | z :: zs, us, r, i, u, e => by
    rw [List.map_cons] at r
    cases r with
    | cons r0 rt =>
      match i, e with
      | 0, e =>
        cases e
        obtain ⟨t, rfl⟩ := r0
        exact ⟨z, t, rfl, rfl⟩
      | i + 1, e => exact vals_str rt (i := i) e
theorem erase_mapS : ∀ (l : List Str) (j : Nat), (l.map V.str).eraseIdx j = (l.eraseIdx j).map V.str
  | [], j => by simp
  | _ :: _, 0 => by simp
  | _ :: r, j + 1 => by simp [erase_mapS r j]
theorem eqs_ok (w z : Str) (tw t : Tok) : MeetsSeq.EqGives (.str w tw) (.str z t) (eqs z (.str w tw)) := by
  have e : eqs z (.str w tw) = (w.cps.toList == z.cps.toList) := (str_beq' w z)
  rw [e]
  exact SeqRoads2.EqGives.str w z tw t
theorem mt_removeS {X : Cx} : MtM X "list.remove" rRemS := by
  intro pins s σ H x xs v us Q I rx rxs h
  obtain ⟨l, zs, z, j, rfl, rfl, hH, hj, hno, q⟩ := h
  cases rx
  obtain ⟨u, rfl, ru⟩ := rxs.one
  obtain ⟨t, rfl⟩ := ru
  obtain ⟨hz, its, n, r, hl, e⟩ := I.lstM hH
  rw [List.length_map] at hl hz
  have hjn : j < zs.length := (List.getElem?_eq_some_iff.mp hj).1
  have hjl : j < its.toArray.size := by rw [List.size_toArray]; omega
  have each : ∀ y, y ∈ its.toArray → MeetsSeq.EqGives y (.str z t) (eqs z y) := fun y hy => by
    obtain ⟨i, hi, e1⟩ := List.mem_iff_getElem.mp (show y ∈ its by simpa using hy)
    obtain ⟨w, tw, rfl, _⟩ := vals_str r (i := i) (by rw [List.getElem?_eq_getElem hi, e1])
    exact eqs_ok w z tw t
  have at_ : ∀ m (hm : m < its.toArray.size), ∃ t', its.toArray[m] = .str (zs[m]'(by rw [List.size_toArray] at hm; omega)) t' := fun m hm => by
    have hm' : m < its.length := by simpa using hm
    obtain ⟨w, tw, ew, ez⟩ := vals_str r (i := m) (List.getElem?_eq_getElem hm')
    have hmz : m < zs.length := by omega
    rw [List.getElem?_eq_getElem hmz] at ez
    exact ⟨tw, by rw [Option.some.inj ez]; simpa using ew⟩
  refine call_meets PySem.F.slot_list_remove ⟨_, e, rfl⟩ PySem.F.entry_list_remove (PySem.F.args_list_remove_2 _ _) (MeetsSeq.list_remove l its.toArray n (.str z t) (eqs z) each j hjl ?_ ?_ (by rw [List.size_toArray]; omega)) ⟨e, ?_⟩
  · obtain ⟨t', et⟩ := at_ j hjl
    rw [List.getElem?_eq_getElem hjn] at hj
    rw [et, Option.some.inj hj]
    exact beq_self_eq_true z
  · intro m hm hmj
    obtain ⟨t', et⟩ := at_ m hm
    rw [et]
    refine beq_eq_false_iff_ne.mpr fun e2 => hno m hmj ?_
    rw [← e2]
    exact List.getElem?_eq_getElem _
  · have rr := r.eraseIdx j
    rw [erase_mapS] at rr
    refine ⟨.non, _, I.lset (its' := its.eraseIdx j) (t' := s.toks) hH e ?_ rr ?_, rfl, q⟩
    · show its.toArray.eraseIdxIfInBounds j = (its.eraseIdx j).toArray
      rw [List.eraseIdxIfInBounds_toArray]
    · have := List.length_eraseIdx_le zs j
      rw [List.length_map]
      omega
/-! ### repr of data, nothing being shown -/
def rReprD (K : PySem.W.Frag) : List V → Hp → VK → Prop := fun xs H Q => ∃ (a : Addr) (d : PyData), xs = [.ref a] ∧ Dp K H (.ref a) d ∧ d.showable = true ∧ d.hasDict = false ∧ d.depth ≤ 60 ∧ d.shown.length ≤ sizeLine ∧ Q (.str d.shown) H
theorem call_reprD {X : Cx} (gd : X.A.guards = some [] ∧ X.A.units + 64 < cLine) : CallR X (.builtin "repr") (rReprD X.K) := by
  intro pins s σ H xs us Q I r h
  obtain ⟨a, d, rfl, hd, hs, hn, hp, hz, q⟩ := h
  obtain ⟨u, rfl, ru⟩ := vals1 r
  obtain ⟨as, rd⟩ := Dp.reads I d (.ref a) u hd ru
  cases (show u = Value.ref a from ru)
  refine repr_of_reads' rd hs (PyData.noDict_hsm hn) gd.1 (by omega) (fun _ _ e => e) (fun h' t tk hk => ⟨.str _, H, I.kept (t' := tk) hk, ⟨_, rfl⟩, q⟩) hz
/-! ### an own class made where what is raised is wished for at the slots -/
def tMakeS (C : Addr) (sp : Sp) (dvs : List V) (E : L2.St → XK) (t : TA) : TE := fun σ H Q => t σ H fun vs H1 => ∀ o d, H1 o = none → H1 d = none → d ≠ o → sp (.ref o :: (vs ++ dvs)) (upd (upd H1 d (.own o)) o (.ins C d [])) (fun v H2 => v = .non ∧ Q (.ref o) H2) (E σ)
section
variable {X : Cx} {CX : CXT} {k : Nat} {f C : Addr} {fd : FuncData} {ps : List Str} {sp : Sp} {dvs : List V} {ds : List Value} {E : L2.St → XK} {x : Str} {p pos : Pos} {e : Expr} {es : List Expr} {t : TA}
theorem pe_makeS (M : Mk X.K C f) (F : FnOk X.prog X.w X.K X.mg X.base CX k f fd ps sp) (hr : Room (k + 1) X.A) (hg : Gl X x) (hm : X.mg x = some (.ref C)) (hb : Binds X.K fd ps ds) (hd : Vals dvs ds) (hx : ∀ σ, PassesAt CX X σ (E σ)) (ha : PA X (e :: es) t)
    (hdb : (x == ("__debug__" : Str)) = false := by decide) (he : starEach (e :: es) X.env = (false, eval e X.env) :: starEach es X.env := by rfl) (hpl : (backTo pos (starEach es X.env)).any (·.1) = false := by rfl) :
    PE X (.Call (.Name x p) (e :: es) [] pos) (tMakeS C sp dvs E t) := by
  refine ⟨fun pins s σ H Q I h => wpAny_Call_Name_kw (ld_glob I hg hm ?_ hdb)⟩
  refine PySem.W.callWith_K (h₀ := X.base) I.ok.mod.kin M.kp (thn (ha.run pos pins s σ H _ I h) fun us s1 ⟨vs, H1, I1, r, q⟩ => ⟨I1.kIn, ?_⟩) he hpl
  have g0 : H1 (s1.heap.objs.size + 1) = none := I1.hok.fresh (Nat.le_succ _)
  have g1 : H1 s1.heap.objs.size = none := I1.hok.fresh (Nat.le_refl _)
  have todo := q _ _ g0 g1 (Nat.ne_of_lt (Nat.lt_succ_self _))
  have J := Inv.made (C := C) I1
  have rr : Vals (V.ref (s1.heap.objs.size + 1) :: (vs ++ dvs)) (Value.ref (s1.heap.objs.size + 1) :: (us ++ ds)) := .cons rfl (r.append hd)
  have many : (Value.ref (s1.heap.objs.size + 1) :: us ++ ds).length = ps.length := (rr.length.symm.trans (F.len _ _ _ _ todo))
  refine wpAny_call (make_map (f := f) I1.kIn M.makes M.init (beq_iff_eq.mp M.fn) (codeAny_mono (F.run _ X.stack _ _ ⟨_, []⟩ _ _ _ (E σ) (hr.make C us []) (J.env0.make C us []) (hb _ (Value.ref (s1.heap.objs.size + 1) :: us) J.kIn many) rr todo) fun
    | .error er, s2, z => hx σ pins _ _ er s2 J z
    | .ok (.ret u), s2, z => ?_
    | .ok .next, _, z => False.elim z
    | .ok .brk, _, z => False.elim z
    | .ok .cont, _, z => False.elim z))
  obtain ⟨v, H3, J3, rv, rfl, z3⟩ := J.after z
  exact ⟨rv, .ref (s1.heap.objs.size + 1), H3, J3, rfl, z3⟩
end
end My

set_option Elab.async false
set_option linter.all false
set_option maxRecDepth 100000
set_option maxHeartbeats 4000000
/-! ### operators, in, len, list of instances of an own class that define them -/
namespace My
open PySem PySem.Spec PyProof.Rows L2
section
variable {X : Cx} {CX : CXT} {pins : List (Addr × Obj)} {σ : L2.St} {H : Hp} {s : Shared} {C g a : Addr} {fd : FuncData} {ps : List Str} {sp : Sp} {E : XK} {k : Nat} {A1 : Around}
theorem inst_of {dx : Addr} {fs : List (Str × V)} (I : Inv X pins σ H s) (ha : H a = some (.ins C dx fs)) : ∃ ox od, PySem.W.InstAt s.heap a ox C (some od) := by
  obtain ⟨mA, J, _⟩ := ins_get I.hok ha
  obtain ⟨od, J', _⟩ := J.look
  exact ⟨_, od, J'⟩
theorem env_under (sb : Sub X k A1) (I : Inv X pins σ H s) : Env0 X.prog X.w X.K X.mg X.base A1 X.stack s H := by
  obtain ⟨f1, f2, f3, f4, f5, f6, f7, f8⟩ := I.env0
  exact ⟨(sb.fr).trans f1, f2, f3, f4, f5, f6, f7, f8⟩
/-- a def of the class runs somewhere below the body -/
theorem run_under {Q : VK} {us : List Value} {vs : List V} (F : FnOk X.prog X.w X.K X.mg X.base CX k g fd ps sp) (sb : Sub X k A1) (hb : Binds X.K fd ps []) (hx : Passes CX X E) (I : Inv X pins σ H s) (r : Vals vs us) (h : sp vs H Q E) :
    wpAny (model X.prog X.w) A1 (call (.ref g) us) (EP X pins σ Q) X.xe s := by
  have len := F.len _ _ _ _ h
  have bnd := hb s us I.kIn (by rw [List.append_nil, ← r.length]; exact len)
  rw [List.append_nil] at bnd
  refine wpAny_call (codeAny_mono (F.run A1 X.stack s H ⟨us, []⟩ us vs Q E sb.room (env_under sb I) bnd r h) ?_)
  rintro (e | fl) s' z
  · exact hx pins σ H s e s' I z
  · cases fl <;> first | exact I.after z | exact z.elim
/-- x op y, both instances of the class at C -/
def rBinO (C : Addr) (sp : Sp) (E : XK) : R2 := fun x y H Q => ∃ (a dx : Addr) (fs : List (Str × V)) (b dy : Addr) (gs : List (Str × V)), x = .ref a ∧ y = .ref b ∧ H a = some (.ins C dx fs) ∧ H b = some (.ins C dy gs) ∧ sp [.ref a, .ref b] H Q E
/-- what stands of an operator's def -/
structure BinC (K : PySem.W.Frag) (C g : Addr) (op : Operator) : Prop where
  one : PySem.W.selfFirst K C = true
  at_ : PySem.W.findIn K (.ref C) (PySem.dunder op.info.2) = some (some (.ref g))
  fn : PySem.W.isFn K (.ref g) = true
theorem sub_here (hr : Room k X.A) : Sub X k X.A := ⟨hr, rfl⟩
theorem op_binO {op : Operator} (c : BinC X.K C g op) (F : FnOk X.prog X.w X.K X.mg X.base CX k g fd ps sp) (hb : Binds X.K fd ps []) (hr : Room k X.A) (hx : Passes CX X E) : OpR X (binaryOp op) (rBinO C sp E) := by
  rintro pins s σ H x y v u Q I rx ry ⟨a, dx, fs, b, dy, gs, rfl, rfl, ha, hb', q⟩
  cases rx
  cases ry
  obtain ⟨ox, od, J⟩ := inst_of I ha
  obtain ⟨oy, ody, J'⟩ := inst_of I hb'
  obtain ⟨m, hF⟩ := I.fr
  refine PySem.W.binop_K hF I.ok.mod.kin J J'.type c.one c.at_ c.fn ?_
  refine thn (run_under (us := [.ref a, .ref b]) (vs := [.ref a, .ref b]) F (sub_here hr) hb hx I (.cons rfl (.cons rfl .nil)) q) ?_
  rintro w s' ⟨z, H', I', rz, qz⟩
  exact SlX.cmpback rz ⟨z, H', I', rz, qz⟩
/-- y in x, x an instance of the class at C: its __contains__ gives a bool -/
def rInO (C : Addr) (sp : Sp) (E : XK) (neg : Bool) : R2 := fun y x H Q => ∃ (a dx : Addr) (fs : List (Str × V)), x = .ref a ∧ H a = some (.ins C dx fs) ∧ sp [.ref a, y] H (fun v H' => ∃ b, v = .bl b ∧ Q (.bl (if neg then !b else b)) H') E
structure InC (K : PySem.W.Frag) (C g : Addr) : Prop where
  at_ : PySem.W.findIn K (.ref C) "__contains__" = some (some (.ref g))
  fn : PySem.W.isFn K (.ref g) = true
theorem op_inO (c : InC X.K C g) (F : FnOk X.prog X.w X.K X.mg X.base CX k g fd ps sp) (hb : Binds X.K fd ps []) (hr : Room k X.A) (hx : Passes CX X E) : OpR X (compareOp .In) (rInO C sp E false) := by
  rintro pins s σ H y x u v Q I ry rx ⟨a, dx, fs, rfl, ha, q⟩
  cases rx
  obtain ⟨ox, od, J⟩ := inst_of I ha
  obtain ⟨m, hF⟩ := I.fr
  refine PySem.W.in_K hF I.ok.mod.kin J c.at_ c.fn ?_
  refine thn (run_under (us := [.ref a, u]) (vs := [.ref a, y]) F (sub_here hr) hb hx I (.cons rfl (.cons ry .nil)) q) ?_
  rintro w s' ⟨z, H', I', rz, b, rfl, qz⟩
  cases rz
  exact wpAny_pure ⟨.bl b, H', I', rfl, qz⟩
theorem op_notInO (c : InC X.K C g) (F : FnOk X.prog X.w X.K X.mg X.base CX k g fd ps sp) (hb : Binds X.K fd ps []) (hr : Room k X.A) (hx : Passes CX X E) : OpR X (compareOp .NotIn) (rInO C sp E true) := by
  rintro pins s σ H y x u v Q I ry rx ⟨a, dx, fs, rfl, ha, q⟩
  cases rx
  obtain ⟨ox, od, J⟩ := inst_of I ha
  obtain ⟨m, hF⟩ := I.fr
  refine PySem.W.notIn_K hF I.ok.mod.kin J c.at_ c.fn ?_
  refine thn (run_under (us := [.ref a, u]) (vs := [.ref a, y]) F (sub_here hr) hb hx I (.cons rfl (.cons ry .nil)) q) ?_
  rintro w s' ⟨z, H', I', rz, b, rfl, qz⟩
  cases rz
  exact wpAny_pure ⟨.bl (!b), H', I', rfl, qz⟩
/-- len(x) -/
structure LenC (K : PySem.W.Frag) (C g : Addr) : Prop where
  at_ : PySem.W.findIn K (.ref C) "__len__" = some (some (.ref g))
  fn : PySem.W.isFn K (.ref g) = true
theorem len_under {R : Value → Shared → Prop} {Q1 : Nat → Hp → Prop} {dx : Addr} {fs : List (Str × V)} (c : LenC X.K C g) (F : FnOk X.prog X.w X.K X.mg X.base CX k g fd ps sp) (hb : Binds X.K fd ps []) (sb : Sub X (k + 1) A1) (hx : Passes CX X E) (I : Inv X pins σ H s)
    (ha : H a = some (.ins C dx fs)) (h : sp [.ref a] H (fun v H' => ∃ n : Nat, v = .int n ∧ n ≤ sizeLine ∧ Q1 n H') E) (hR : ∀ (n : Nat) H' s' t, n ≤ sizeLine → Inv X pins σ H' s' → Q1 n H' → R (.int n t) s') : wpAny (model X.prog X.w) A1 (call (.builtin "len") [.ref a]) R X.xe s := by
  obtain ⟨ox, od, J⟩ := inst_of I ha
  refine Calls.call_function_entry kind_len plain_len entry_len (args_len1 _) ?_
  unfold Builtin.«len»
  refine wpAny_bind (m := oneArg "len" _) (wpAny_pure ?_)
  refine wpAny_bind (PySem.W.special_fn I.kIn J c.at_ (beq_iff_eq.mp c.fn) ?_)
  refine thn (run_under (us := [.ref a]) (vs := [.ref a]) F sb.in1 hb hx I (.cons rfl .nil) h) ?_
  rintro w s' ⟨z, H', I', rz, n, rfl, hn, hq⟩
  obtain ⟨t, rfl⟩ := rz
  have h63 : ((n : Int)) < 2 ^ 63 := by
    rw [sizeLine_eq] at hn
    omega
  refine wpAny_bind (wpAny_holding (wpAny_pure ?_))
  refine wpAny_bind (wpAny_letGo ?_)
  refine wpAny_ite_false (decide_eq_false (show ¬ ((n : Int) < 0) by omega)) ?_
  refine wpAny_ite_false (decide_eq_false (show ¬ ((n : Int) ≥ 2 ^ 63) by omega)) ?_
  exact wpAny_bind (wpAny_mkInt (wpAny_pure ⟨_, rfl, hR n H' _ _ hn (I'.tok _) hq⟩))
def rLenO (C : Addr) (sp : Sp) (E : XK) : List V → Hp → VK → Prop := fun xs H Q => ∃ (a dx : Addr) (fs : List (Str × V)), xs = [.ref a] ∧ H a = some (.ins C dx fs) ∧ sp [.ref a] H (fun v H' => ∃ n : Nat, v = .int n ∧ n ≤ sizeLine ∧ Q (.int n) H') E
theorem call_lenO (c : LenC X.K C g) (F : FnOk X.prog X.w X.K X.mg X.base CX k g fd ps sp) (hb : Binds X.K fd ps []) (hr : Room (k + 1) X.A) (hx : Passes CX X E) : CallR X (.builtin "len") (rLenO C sp E) := by
  rintro pins s σ H xs us Q I r ⟨a, dx, fs, rfl, ha, q⟩
  obtain ⟨u, rfl, ru⟩ := r.one
  cases ru
  exact len_under (Q1 := fun n H' => Q (.int n) H') c F hb (sub_here hr) hx I ha q fun n H' s' t _ I' hq => ⟨.int n, H', I', ⟨t, rfl⟩, hq⟩
/-- something that is no more looked at -/
def junk (q : Addr) : HO := .ext fun h => ∃ o, h.get? q = some o
theorem junk_ok {P : Program} {w : World} {H : Hp} {h : Heap} {q : Addr} {o : Obj} (e : h.get? q = some o) : ObjOk P w H h q (junk q) := ⟨⟨_, e⟩, ⟨_, e⟩, fun _ _ ⟨u, z⟩ k => ⟨u, k _ z⟩⟩
/-- the class's __iter__ gives iter(l) of a list l, and it has a __len__ -/
structure IterC (K : PySem.W.Frag) (C gi gl : Addr) : Prop where
  it : PySem.W.findIn K (.ref C) "__iter__" = some (some (.ref gi))
  itF : PySem.W.isFn K (.ref gi) = true
  ln : LenC K C gl
/-- list(x) -/
def rListO (K : PySem.W.Frag) (C : Addr) (si sl : Sp) (E : XK) : List V → Hp → VK → Prop := fun xs H Q => ∃ (a dx : Addr) (fs : List (Str × V)), xs = [.ref a] ∧ H a = some (.ins C dx fs) ∧ ∀ q, H q = none →
  si [.ref a] (upd H q (.lst [])) (fun v H1 => ∃ (l it : Addr) (zs : List V), v = .ref it ∧ H1 a = some (.ins C dx fs) ∧ H1 it = some (ItO l it 0) ∧ SqL K H1 l zs ∧ l ≠ q ∧ l ≠ it ∧ H1 q = some (.lst []) ∧
    sl [.ref a] H1 (fun v H2 => ∃ n : Nat, v = .int n ∧ n ≤ sizeLine ∧ H2 it = some (ItO l it 0) ∧ SqL K H2 l zs ∧ H2 q = some (.lst []) ∧ Q (.ref q) (upd (upd H2 it (junk it)) q (.lst zs))) E) E
/-- .. where nothing is raised -/
theorem run_under0 {Q : VK} {us : List Value} {vs : List V} {Ex : Value → Shared → Prop} (F : FnOk X.prog X.w X.K X.mg X.base CX0 k g fd ps sp) (sb : Sub X k A1) (hb : Binds X.K fd ps []) (I : Inv X pins σ H s) (r : Vals vs us) (h : sp vs H Q E) :
    wpAny (model X.prog X.w) A1 (call (.ref g) us) (EP X pins σ Q) Ex s := by
  have len := F.len _ _ _ _ h
  have bnd := hb s us I.kIn (by rw [List.append_nil, ← r.length]; exact len)
  rw [List.append_nil] at bnd
  refine wpAny_call (codeAny_mono (F.run A1 X.stack s H ⟨us, []⟩ us vs Q E sb.room (env_under sb I) bnd r h) ?_)
  rintro (e | fl) s' z
  · exact False.elim z
  · cases fl <;> first | exact I.after z | exact z.elim
theorem len_under0 {R : Value → Shared → Prop} {Ex : Value → Shared → Prop} {Q1 : Nat → Hp → Prop} {dx : Addr} {fs : List (Str × V)} (c : LenC X.K C g) (F : FnOk X.prog X.w X.K X.mg X.base CX0 k g fd ps sp) (hb : Binds X.K fd ps []) (sb : Sub X (k + 1) A1) (I : Inv X pins σ H s)
    (ha : H a = some (.ins C dx fs)) (h : sp [.ref a] H (fun v H' => ∃ n : Nat, v = .int n ∧ n ≤ sizeLine ∧ Q1 n H') E) (hR : ∀ (n : Nat) H' s' t, n ≤ sizeLine → Inv X pins σ H' s' → Q1 n H' → R (.int n t) s') : wpAny (model X.prog X.w) A1 (call (.builtin "len") [.ref a]) R Ex s := by
  obtain ⟨ox, od, J⟩ := inst_of I ha
  refine Calls.call_function_entry kind_len plain_len entry_len (args_len1 _) ?_
  unfold Builtin.«len»
  refine wpAny_bind (m := oneArg "len" _) (wpAny_pure ?_)
  refine wpAny_bind (PySem.W.special_fn I.kIn J c.at_ (beq_iff_eq.mp c.fn) ?_)
  refine thn (run_under0 (us := [.ref a]) (vs := [.ref a]) F sb.in1 hb I (.cons rfl .nil) h) ?_
  rintro w s' ⟨z, H', I', rz, n, rfl, hn, hq⟩
  obtain ⟨t, rfl⟩ := rz
  have h63 : ((n : Int)) < 2 ^ 63 := by
    rw [sizeLine_eq] at hn
    omega
  refine wpAny_bind (wpAny_holding (wpAny_pure ?_))
  refine wpAny_bind (wpAny_letGo ?_)
  refine wpAny_ite_false (decide_eq_false (show ¬ ((n : Int) < 0) by omega)) ?_
  refine wpAny_ite_false (decide_eq_false (show ¬ ((n : Int) ≥ 2 ^ 63) by omega)) ?_
  exact wpAny_bind (wpAny_mkInt (wpAny_pure ⟨_, rfl, hR n H' _ _ hn (I'.tok _) hq⟩))
theorem hint_own {Q : Bool → Shared → Prop} {Ex : Value → Shared → Prop} {Q1 : Nat → Hp → Prop} {dx : Addr} {fs : List (Str × V)} (c : LenC X.K C g) (F : FnOk X.prog X.w X.K X.mg X.base CX0 k g fd ps sp) (hb : Binds X.K fd ps []) (sb : Sub X (k + 1) A1) (I : Inv X pins σ H s)
    (ha : H a = some (.ins C dx fs)) (h : sp [.ref a] H (fun v H' => ∃ n : Nat, v = .int n ∧ n ≤ sizeLine ∧ Q1 n H') E) (hR : ∀ b n H' s', Inv X pins σ H' s' → Q1 n H' → Q b s') : wpAny (model X.prog X.w) A1 (Builtin.List.listLengthHint (.ref a)) Q Ex s := by
  obtain ⟨ox, od, J⟩ := inst_of I ha
  unfold Builtin.List.listLengthHint
  refine wpAny_bind (wpAny_bind (J.type.here ((PySem.W.looks_findIn I.kIn c.at_).here ?_)))
  refine PySem.W.KFB.if_not rfl ?_
  refine PySem.W.KFB.if_so rfl ?_
  refine wpAny_bind (wpAny_rule ?_)
  refine wpAny_bind (wpAny_attempt (len_under0 c F hb sb I ha h ?_))
  intro n H' s' t hn I' hq
  show wpAny _ _ (pure (some (n : Int)) >>= _) _ _ _
  refine wpAny_bind (wpAny_pure ?_)
  have hl : Builtin.List.listTooLong ((n : Int).toNat) = false := by
    rw [Int.toNat_natCast]; exact notLongL hn
  refine PySem.W.KFB.if_not hl ?_
  exact wpAny_pure (hR _ n H' s' I' hq)
/-! ### the list's iterator, drawn to its end -/
theorem py_item {it l : Addr} {i : Nat} {items : Array Value} {v : Value} {prog : Program} {w : World} {Q : Option Value → Shared → Prop} {Ex : Value → Shared → Prop} (ho : s.heap.get? it = some (GNX.itObj l i)) (hl : s.heap.IsList l items) (hv : items[i]? = some v)
    (hQ : ∀ h', h'.get? it = some (GNX.itObj l (i + 1)) → (∀ b o, b ≠ it → s.heap.get? b = some o → h'.get? b = some o) → Q (some v) { s with heap := h' }) : wpAny (model prog w) A1 (pyNext (.ref it)) Q Ex s := by
  have hT : s.TypeIs (.ref it) "list_iterator" := ⟨_, ho, rfl⟩
  unfold pyNext
  refine wpAny_bind (wpAny_attempt (wpAny_callSpecial?_slot (name := Str.ofString "__next__") hT slot_listiter_next (wpAny_call_entry slot_listiter_next hT entry_listiter_next (GNX.next_item ho hl hv ?_) (args_listiter_next _))))
  intro h' e sb
  exact wpAny_pure (hQ h' e fun b o hb eb => (sb.2 b hb).trans eb)
theorem py_end {it l : Addr} {i : Nat} {items : Array Value} {prog : Program} {w : World} {Q : Option Value → Shared → Prop} {Ex : Value → Shared → Prop} (hh : A1.handled = none) (ho : s.heap.get? it = some (GNX.itObj l i)) (hl : s.heap.IsList l items) (hv : items[i]? = none)
    (hQ : ∀ h', h'.get? it = some (GNX.itEnd i) → (∀ b o, b ≠ it → s.heap.get? b = some o → h'.get? b = some o) → Q none { s with heap := h' }) : wpAny (model prog w) A1 (pyNext (.ref it)) Q Ex s := by
  have hT : s.TypeIs (.ref it) "list_iterator" := ⟨_, ho, rfl⟩
  unfold pyNext
  refine wpAny_bind (wpAny_attempt (wpAny_callSpecial?_slot (name := Str.ofString "__next__") hT slot_listiter_next (wpAny_call_entry slot_listiter_next hT entry_listiter_next (GNX.next_end hh ho hl hv ?_) (args_listiter_next _))))
  intro h1 h' e vs e1 sb k1 ne he hv'
  refine wpAny_bind (wpAny_isInstance (T := "StopIteration") (b := true) ⟨_, he, rfl⟩ PySem.isSubtype_stop ?_)
  exact wpAny_pure (hQ h' (k1 _ _ e1) fun b o hb eb => k1 _ _ ((sb.2 b hb).trans eb))
theorem same_upd {H : Hp} {q : Addr} {o : HO} (e : H q = some o) : upd H q o = H := by
  funext b
  by_cases z : b = q
  · rw [z, upd_same, e]
  · rw [upd_ne z]
theorem take_next' {α : Type} {xs : List α} {i : Nat} {x : α} (h : xs[i]? = some x) : xs.take (i + 1) = xs.take i ++ [x] := by
  rw [List.take_add_one, h]; rfl
/-- the loop that fills the list at q -/
theorem drain {q l it : Addr} {zs : List V} {F : Hp} {R : Result → Shared → Prop} (hh : A1.in1.handled = none) (lit : l ≠ it) (lq : l ≠ q) (hne : it ≠ q) (hdone : ∀ s', Inv X pins σ F s' → R (.ok (.ret .none)) s') :
    ∀ (n i : Nat) (H1 : Hp) (s1 : Shared), zs.length - i = n → i ≤ zs.length → Inv X pins σ H1 s1 → H1 it = some (ItO l it i) → SqL X.K H1 l zs → H1 q = some (.lst (zs.take i)) → upd (upd H1 it (junk it)) q (.lst zs) = F →
      codeAny (model X.prog X.w) A1 (.builtin "list.extend.loop" ⟨[.ref q, .ref it, .none], []⟩) R s1 := by
  intro n
  induction n with
  | zero =>
    intro i H1 s1 hn hi I hit hl hq hF
    obtain ⟨its, rv, pl, hz⟩ := I.list hl
    have hlen := rv.length
    have nope : its.toArray[i]? = none := by
      rw [List.getElem?_toArray]
      exact List.getElem?_eq_none (by omega)
    refine codeAny_builtin PySem.F.entry_extend_loop ?_
    rw [Around.under_plainId PySem.F.plain_extend_loop _]
    refine wpAny_bind (m := pyNext (.ref it)) (py_end hh (itO_get I hit) pl.isList nope fun h' he hk => ?_)
    have J : Inv X pins σ (upd H1 it (junk it)) { s1 with heap := h' } := I.write (t' := s1.toks) (x := it) (e := it) (by rw [hit]; exact True.intro) (.inl rfl) (fun b u hb e => hk b u hb e) ⟨_, he⟩ (junk_ok he)
    have e : upd H1 it (junk it) = F := by
      rw [← hF]
      refine (same_upd ?_).symm
      rw [upd_ne hne.symm, hq, List.take_of_length_le (by omega)]
    rw [e] at J
    exact wpAny_pure (hdone _ J)
  | succ n ih =>
    intro i H1 s1 hn hi I hit hl hq hF
    obtain ⟨its, rv, pl, hz⟩ := I.list hl
    have hlen := rv.length
    have hx : zs[i]? = some zs[i] := List.getElem?_eq_getElem (by omega)
    obtain ⟨u, hu, ru⟩ := rv.get hx
    refine codeAny_builtin PySem.F.entry_extend_loop ?_
    rw [Around.under_plainId PySem.F.plain_extend_loop _]
    refine wpAny_bind (m := pyNext (.ref it)) (py_item (itO_get I hit) pl.isList (v := u) (by simpa using hu) fun h' he hk => ?_)
    have J : Inv X pins σ (upd H1 it (ItO l it (i + 1))) { s1 with heap := h' } := I.write (t' := s1.toks) (x := it) (e := it) (by rw [hit]; exact True.intro) (.inl rfl) (fun b u hb e => hk b u hb e) ⟨_, he⟩ (itO_ok he)
    have hq' : (upd H1 it (ItO l it (i + 1))) q = some (.lst (zs.take i)) := by rw [upd_ne hne.symm]; exact hq
    obtain ⟨_, ys, c, r2, hl2, e2⟩ := J.lstM hq'
    have hy : ys.length = i := by rw [← hl2, List.length_take]; omega
    refine wpAny_bind (m := updateSeq q (·.push u)) (wpAny_updateSeq e2 rfl (wpAny_pure ⟨plainId_quiet PySem.F.plain_extend_loop _, ?_⟩) (by rw [List.size_toArray]; omega) (by rw [Array.size_push, List.size_toArray]; omega))
    have J2 := J.lset (f := (·.push u)) (its' := ys ++ [u]) (ys := zs.take (i + 1)) (t' := s1.toks) hq' e2 (by simp) (by rw [take_next' hx]; exact r2.append (.cons ru .nil)) (by rw [List.length_take]; omega)
    refine ih (i + 1) _ _ (by omega) (by omega) J2 ?_ ?_ upd_same ?_
    · rw [upd_ne hne]; exact upd_same
    · exact (((Kp.refl [it, q] H1).put (by simp)).put (by simp)).ls (by simp [lit, lq]) hl
    · rw [← hF]
      funext b
      by_cases z : b = q
      · rw [z, upd_same, upd_same]
      · rw [upd_ne z, upd_ne z]
        by_cases y : b = it
        · rw [y, upd_same, upd_same]
        · rw [upd_ne y, upd_ne y, upd_ne z, upd_ne y]
theorem call_listO {gi gl : Addr} {fdi fdl : FuncData} {psi psl : List Str} {si sl : Sp} {ki kl : Nat} (c : IterC X.K C gi gl) (Fi : FnOk X.prog X.w X.K X.mg X.base CX0 ki gi fdi psi si) (bi : Binds X.K fdi psi []) (Fl : FnOk X.prog X.w X.K X.mg X.base CX0 kl gl fdl psl sl) (bl : Binds X.K fdl psl [])
    (hr : Room (max ki (kl + 1) + 2) X.A) (hcalm : X.calm = true := by rfl) : CallR X (.type "list") (rListO X.K C si sl E) := by
  rintro pins s σ H xs us Q I rv ⟨a, dx, fs, rfl, ha, hq⟩
  obtain ⟨u, rfl, ru⟩ := rv.one
  cases ru
  have sb0 : Sub X (max ki (kl + 1)) X.A.in1.in1 := (sub_here hr).in1.in1
  have hh : X.A.handled = none := I.ok.hd hcalm
  refine callType_codes (Q₁ := fun obj s₁ => obj = .ref s.heap.objs.size ∧ s₁ = { s with heap := s.heap.push { cls := .type "list", data := .seq #[] } }) PySem.F.called_list (PySem.F.typeCall_list_1 _) PySem.F.entry_list_init (code_list_new _ ⟨rfl, rfl⟩) ?_
  rintro obj s₁ ⟨rfl, rfl⟩
  have hS : (s.heap.push { cls := .type "list", data := .seq #[] }).get? s.heap.objs.size = some { cls := .type "list", data := .seq #[] } := Heap.get?_push_size _ rfl
  refine ⟨⟨_, hS, rfl⟩, PySem.F.args_list_init_2 _ _, ?_⟩
  have fr : H s.heap.objs.size = none := I.hok.fresh (Nat.le_refl _)
  have todo := hq _ fr
  generalize hqq : s.heap.objs.size = q at *
  have I1 : Inv X pins σ (upd H q (.lst [])) { s with heap := s.heap.push { cls := .type "list", data := .seq #[] } } := by
    rw [← hqq]
    exact I.lnew (its := []) (t' := s.toks) .nil (Nat.zero_le _)
  show wpAny _ _ (Builtin.List.listItems (.ref q) >>= fun old => Builtin.List.listUpdate (.ref q) (fun _ => #[]) >>= fun _ => letGo old.toList.reverse >>= fun _ => Builtin.List.listExtendWith (.ref q) (.ref a) .none) _ _ _
  refine wpAny_bind ?_
  unfold Builtin.List.listItems
  refine wpAny_bind (wpAny_seqItems hS rfl (wpAny_pure ?_))
  refine wpAny_bind (m := updateSeq q fun _ => #[]) (wpAny_updateSeq hS rfl ?_)
  have I2 := I1.lset (f := fun _ => #[]) (its := []) (its' := []) (ys := []) (t' := s.toks) upd_same hS rfl .nil (Nat.zero_le _)
  rw [upd_upd] at I2
  refine wpAny_bind (wpAny_letGo ?_)
  have ha2 : upd H q (.lst []) a = some (.ins C dx fs) := by rw [upd_ne (ne_of_none ha fr)]; exact ha
  obtain ⟨ox, od, J⟩ := inst_of I2 ha2
  obtain ⟨m0, hF⟩ := I2.fr
  have naq : a ≠ q := ne_of_none ha fr
  unfold Builtin.List.listExtendWith
  refine wpAny_bind (J.type.here ?_)
  have h1 : Builtin.List.listSameRef (.ref q) (.ref a) = false := beq_eq_false_iff_ne.mpr naq.symm
  refine PySem.W.KFB.if_not (by rw [h1]; rfl) ?_
  refine wpAny_bind (PySem.W.owit_iter hF I2.ok.mod.kin J c.it c.itF ?_)
  refine thn (run_under0 (us := [.ref a]) (vs := [.ref a]) Fi (sb0.mono (Nat.le_max_left _ _)) bi I2 (.cons rfl .nil) todo) ?_
  rintro w s2 ⟨z, H1, I3, rz, l, it, zs, rfl, ha3, hit, hl, lq, lit, hq3, hsl⟩
  cases rz
  unfold PySem.W.OwitIt
  have hT : s2.TypeIs (.ref it) "list_iterator" := ⟨_, itO_get I3 hit, rfl⟩
  refine wpAny_specialOf (name := Str.ofString "__next__") hT slot_listiter_next.lookup ?_
  refine wpAny_bind (wpAny_holding (hint_own c.ln Fl bl (sb0.mono (Nat.le_max_right _ _)) I3 ha3 hsl ?_))
  rintro room n H2 s3 I4 ⟨hit4, hl4, hq4, qend⟩
  have hne : it ≠ q := ne_of hit4 hq4 (fun z => by cases z)
  have fin : ∀ s4, Inv X pins σ H2 s4 → codeAny (model X.prog X.w) X.A.in1 (.builtin "list.extend.loop" ⟨[.ref q, .ref it, .none], []⟩) (wants (fun r s₂ => r = .none ∧ EP X pins σ Q (.ref q) s₂) X.xe) s4 := fun s4 I5 =>
    drain (A1 := X.A.in1) (F := upd (upd H2 it (junk it)) q (.lst zs)) (by simp [hh]) lit lq hne (fun s' I6 => ⟨rfl, .ref q, _, I6, rfl, qend⟩) _ 0 H2 s4 rfl (Nat.zero_le _) I5 hit4 hl4 (by rw [List.take_zero]; exact hq4) rfl
  refine wpAny_ite_split (fun _ => ?_) (fun _ => wpAny_pure ⟨plainId_quiet PySem.F.plain_extend_loop _, fin s3 I4⟩)
  refine wpAny_bind (wpAny_rule (wpAny_bind ?_))
  obtain ⟨_, its, k4, r4, hl5, e4⟩ := I4.lstM hq4
  cases r4
  refine wpAny_bind (m := updateSeq q (·.push .none)) (wpAny_updateSeq e4 rfl ?_)
  have I5 := I4.lset (f := (·.push Value.none)) (its' := [Value.none]) (ys := [.non]) (t' := s3.toks) hq4 e4 (by simp) (.cons rfl .nil) (by rw [List.length_singleton, sizeLine_eq]; decide)
  obtain ⟨_, its5, k5, r5, hl6, e5⟩ := I5.lstM upd_same
  obtain ⟨u5, rfl, ru5⟩ := r5.one
  refine wpAny_updateSeq (a := q) (f := (·.pop)) e5 rfl ?_ (by show 1 ≤ sizeLine; rw [sizeLine_eq]; decide) (by show 0 ≤ sizeLine + 1; exact Nat.zero_le _)
  have I6 := I5.lset (f := (·.pop)) (its := [u5]) (its' := []) (ys := []) (t' := s3.toks) upd_same e5 (by rfl) .nil (Nat.zero_le _)
  rw [upd_upd, same_upd hq4] at I6
  exact wpAny_pure ⟨plainId_quiet PySem.F.plain_extend_loop _, fin _ I6⟩
end
/-! ### a static method, called by its class's name -/
structure StaC (K : PySem.W.Frag) (C : Addr) (mc : Value) (m : Str) (p g : Addr) : Prop where
  rd : PySem.W.readsIn K C mc = true
  ga : PySem.W.specialIn K (.ref C) "__getattribute__" = some (some (.builtin "type.__getattribute__"))
  at_ : PySem.W.findCls K (.ref C) mc m = some (.get (.builtin "staticmethod.__get__") (.ref p) .none (.ref C))
  rc : ∃ rest, PySem.W.recIn K p "staticmethod" = some (.ref g :: rest)
  kp : PySem.W.keepIn K (.ref g) = true
def tSta (C : Addr) (sp : Sp) (dvs : List V) (E : XK) (ta : TE) (t : TA) : TE := fun σ H Q => ta σ H fun x H1 => x = .ref C ∧ t σ H1 fun vs H2 => sp (vs ++ dvs) H2 Q E
section
variable {X : Cx} {CX : CXT} {C p g : Addr} {mc : Value} {m : Str} {fd : FuncData} {ps : List Str} {sp : Sp} {E : XK} {k : Nat} {o e : Expr} {es : List Expr} {ta : TE} {t : TA} {apos pos : Pos} {dvs : List V} {ds : List Value}
theorem pe_sta {pl : Sem Bool} (he : PE X o ta) (c : StaC X.K C mc m p g) (F : FnOk X.prog X.w X.K X.mg X.base CX k g fd ps sp) (hr : Room k X.A) (hb : Binds X.K fd ps ds) (hd : Vals dvs ds) (hx : Passes CX X E) (ha : PA X (e :: es) t)
    (hst : starEach (e :: es) X.env = (false, eval e X.env) :: starEach es X.env := by rfl) (hpl : (backTo pos (starEach es X.env)).any (·.1) = false := by rfl)
    (ht : eval (.Call (.Attribute o m apos) (e :: es) [] pos) X.env = (eval o X.env >>= fun ov => standAt apos.atName >>= fun _ => holding [ov] (getMethod ov m pl) >>= fun fr => callWith pos fr.1 fr.2 (backTo pos (starEach (e :: es) X.env)) (backToKw pos (keywordEach [] X.env))) := by rfl) :
    PE X (.Call (.Attribute o m apos) (e :: es) [] pos) (tSta C sp dvs E ta t) := by
  refine ⟨fun pins s σ H Q I h => ?_⟩
  refine PySem.W.methodCall_KW (pl := pl) (thn (he.run pins s σ H _ I h) ?_) ht
  rintro u s1 ⟨x, H1, I1, rx, rfl, q⟩
  cases rx
  obtain ⟨rest, hp⟩ := c.rc
  refine PySem.W.method_cls I1.kIn c.ga (PySem.W.cls_bind I1.kIn c.rd c.at_ (wpAny_call ?_))
  refine PySem.W.sm_get (s := { s1 with toks := s1.toks + 1 }) I1.kIn hp (PySem.W.handed_on rfl ?_)
  refine PySem.W.callWith_K (first := []) (h₀ := X.base) I1.ok.mod.kin c.kp (thn (ha.run pos pins _ σ H1 _ (I1.tok _) q) fun us s2 ⟨vs, H2, I2, r, q2⟩ => ⟨I2.kIn, ?_⟩) hst hpl
  exact run_fn F hr hb hd hx I2 r q2
/-- x in t, t a tuple, of data of any depth -/
def rInT (K : PySem.W.Frag) (neg : Bool) : R2 := fun x y H Q => ∃ d ds, Dp K H x d ∧ Dp K H y (.tuple ds) ∧ SeqAt.shaped d = true ∧ SeqAt.shaped (.tuple ds) = true ∧ Q (.bl (if neg then !(ds.any fun z => PyData.eqv z d) else ds.any fun z => PyData.eqv z d)) H
theorem op_inT (hu : X.A.units + 65 < cLine) : OpR X (compareOp .In) (rInT X.K false) := by
  rintro pins s σ H x y v u Q I rx ry ⟨d, ds, hd, he, sd, se, q⟩
  obtain ⟨as, r1⟩ := Dp.reads I d x v hd rx
  obtain ⟨bs, r2⟩ := Dp.reads I (.tuple ds) y u he ry
  exact SeqAt.in_tuple_reads r2 r1 (SeqAt.canLay_of_shaped se) (SeqAt.canLay_of_shaped sd) (room_in_shaped sd hu) ⟨.bl _, H, I, rfl, q⟩
theorem op_notInT (hu : X.A.units + 65 < cLine) : OpR X (compareOp .NotIn) (rInT X.K true) := by
  rintro pins s σ H x y v u Q I rx ry ⟨d, ds, hd, he, sd, se, q⟩
  obtain ⟨as, r1⟩ := Dp.reads I d x v hd rx
  obtain ⟨bs, r2⟩ := Dp.reads I (.tuple ds) y u he ry
  exact SeqAt.notIn_tuple_reads r2 r1 (SeqAt.canLay_of_shaped se) (SeqAt.canLay_of_shaped sd) (room_in_shaped sd hu) ⟨.bl _, H, I, rfl, q⟩
end
end My

set_option Elab.async false
set_option linter.all false
set_option maxRecDepth 100000
set_option maxHeartbeats 4000000
/-! ### defs that close over their class, and super().__init__(..) of an own error -/
namespace My
open PySem L2 NdefX
/-- a block whose activation is known -/
structure PSat (X : Cx) (c : Code) (body : List Stmt) (t : TS) : Prop where
  run : ∀ (pins : List (Addr × Obj)) (s : Shared) (σ : L2.St) (H : Hp) (D : Ends), Inv X pins σ H s → t D σ H → wpAt (model X.prog X.w) X.A c (execs body X.env) (SP X pins D) X.xe s
structure PSat1 (X : Cx) (c : Code) (st : Stmt) (t : TS) : Prop where
  run : ∀ (pins : List (Addr × Obj)) (s : Shared) (σ : L2.St) (H : Hp) (D : Ends), Inv X pins σ H s → t D σ H → wpAt (model X.prog X.w) X.A c (exec st X.env) (SP X pins D) X.xe s
theorem psat_of {X : Cx} {c : Code} {body : List Stmt} {t : TS} (h : PSs X body t) : PSat X c body t := ⟨fun pins s σ H D I q => wpAt_of_wpAny (h.run pins s σ H D I q)⟩
theorem psat_cons {X : Cx} {c : Code} {st : Stmt} {rest : List Stmt} {t u : TS} (h1 : PSat1 X c st t) (h2 : PSs X rest u) : PSat X c (st :: rest) (tSeq t u) := by
  refine ⟨fun pins s σ H D I q => ?_⟩
  refine PySem.ks_wpAt_execs_cons (wpAt_mono (h1.run pins s σ H { D with nx := u D } I q) (fun f s1 r => ?_) fun _ _ z => z)
  cases f with
  | next =>
    obtain ⟨σ', H', I', r⟩ := r
    exact wpAt_of_wpAny (h2.run pins s1 σ' H' D I' r)
  | brk => exact r
  | cont => exact r
  | ret u => exact r
/-- the words of a def that closes over its class -/
def nfOf (x qual : Str) (st : Stmt) (cc cda : Addr) : NF := ⟨x, qual, defArgs st, defBody st, defScope st, [("__class__", cc)], cda⟩
structure FunX (K : PySem.W.Frag) (x qual : Str) (st : Stmt) (f : Addr) (fd : FuncData) (cc cda D : Addr) : Prop where
  ex : ∃ (oc : Value) (od : Option Addr) (kV doc pm : Value) (an : Option Addr) (ct : Value) (osl : Array (Option Value)),
    fd = PySem.W.fnX x qual (defArgs st) (defBody st) (defScope st) [("__class__", cc)] .none kV doc pm an (.ref cda) ct ∧ K.lookup f = some ⟨oc, od, .func fd, osl⟩ ∧ PySem.W.codeIn K (.ref cda) qual = true
  cell : ∃ (cl : Value) (cld : Option Addr) (csl : Array (Option Value)), K.lookup cc = some ⟨cl, cld, .cell (some (.ref D)), csl⟩
  kp : PySem.W.keepIn K (.ref f) = true
section
variable {P : Program} {w : World} {K : PySem.W.Frag} {mg : Str → Option Value} {base : Heap}
abbrev cxX (CX : CXT) (P : Program) (w : World) (K : PySem.W.Frag) (mg : Str → Option Value) (base : Heap) (N : List Str) (x qual : Str) (st : Stmt) (cc cda f : Addr) (A : Around) (outer : List Env) (s : Shared) (H : Hp) (E : XK) : Cx := ncx CX P w K mg base N (nfOf x qual st cc cda) f A outer s H E
theorem FunX.ok {CX : CXT} {x qual : Str} {st : Stmt} {f cc cda D : Addr} {fd : FuncData} {N ps : List Str} {k : Nat} {sp : Sp} (F : FunX K x qual st f fd cc cda D) (S : NScope N ps ["__class__"] (defScope st)) (len : ∀ vs H Q E, sp vs H Q E → vs.length = ps.length)
    (hbody : ∀ (A : Around) (outer : List Env) (s : Shared) (H : Hp) (vs : List V) (Q : VK) (E : XK), Room k (A.deeper (envF (nfOf x qual st cc cda) f s.heap.objs.size)) → sp vs H Q E →
      ∃ t, PSat (cxX CX P w K mg base N x qual st cc cda f A outer s H E) (.func (defBody st) (envF (nfOf x qual st cc cda) f s.heap.objs.size)) (defBody st) t ∧ t { nx := fun _ H' => Q .non H', rt := Q } (startF N vs [some (.ref D)]) H) :
    FnOk P w K mg base CX (k + 1) f fd ps sp := by
  obtain ⟨oc, od, kV, doc, pm, an, ct, osl, rfl, lk, hcd⟩ := F.ex
  obtain ⟨cl, cld, csl, hcc⟩ := F.cell
  refine ⟨len, fun A outer s H args us vs Q E hr e0 hb r hsp => ?_⟩
  have hl := len _ _ _ _ hsp
  have KX : K.In s.heap := e0.mod.kin.keeps fun b o e => (e0.bs b o e).1
  have lim : s.heap.NoLimit := e0.mod.nolimit.keeps fun b o e => (e0.bs b o e).1
  have hcB := e0.mod.kin _ _ hcc
  have C : CellsAt (nfOf x qual st cc cda).cl ["__class__"] [some (.ref D)] s.heap H := by
    refine ⟨rfl, fun y c e => ?_, fun a b c e1 e2 => ?_, fun i y e => ?_⟩
    · have e' : (if y = ("__class__" : Str) then some cc else none) = some c := by
        rw [← e]
        show _ = List.lookup y [(("__class__" : Str), cc)]
        rw [List.lookup_cons, List.lookup_nil]
        by_cases h : y = ("__class__" : Str)
        · rw [if_pos h, beq_iff_eq.mpr h]
        · rw [if_neg h, beq_eq_false_iff_ne.mpr h]
      split at e'
      · cases e'
        exact ⟨(e0.bs _ _ hcB).2, _, _, KX _ _ hcc, rfl⟩
      · cases e'
    · have g : ∀ (y : Str) (d : Addr), List.lookup y [(("__class__" : Str), cc)] = some d → y = "__class__" := by
        intro y d e
        rw [List.lookup_cons, List.lookup_nil] at e
        by_cases h : y = ("__class__" : Str)
        · exact h
        · rw [beq_eq_false_iff_ne.mpr h] at e
          cases e
      exact (g a c e1).trans (g b c e2).symm
    · match i, e with
      | 0, e =>
        have ey : y = "__class__" := (Option.some.inj e).symm
        subst ey
        exact ⟨cc, rfl, fun v hv => ⟨.ref D, by cases hv; rfl, _, KX _ _ hcc, rfl⟩⟩
      | i + 1, e => cases e
  refine PySem.ks_codeAny_call_defAt (fd := PySem.W.fnX x qual (defArgs st) (defBody st) (defScope st) [("__class__", cc)] .none kV doc pm an (.ref cda) ct) (body := defBody st) (binds := ps.zip us) hr.depth (KX _ _ lk) rfl lim (PySem.W.codeRec_of KX hcd) rfl hb S.nocell (fun ⟨n, v⟩ hy => S.par n (List.of_mem_zip hy).1) (fun h₁ hns kp => ?_) S.co S.gen S.kind
  obtain ⟨t, ht, hq⟩ := hbody A outer s H vs Q E (hr.deeper _) hsp
  have I : Inv (cxX CX P w K mg base N x qual st cc cda f A outer s H E) [] (startF N vs [some (.ref D)]) H { s with heap := h₁, toks := s.toks + (ps.zip us).length } := inv_startN S hr.hd e0 hl r C hns kp
  refine wpAt_mono (ht.run [] _ (startF N vs [some (.ref D)]) H _ I hq) (fun fl s' hs => ?_) fun e s' hs => hs
  have fin : ∀ {σ' : L2.St} {H' : Hp} {v : V} {u : Value}, Inv (cxX CX P w K mg base N x qual st cc cda f A outer s H E) [] σ' H' s' → L2.RelV v u → Q v H' → CE outer P w H s Q u s' :=
    fun {σ' H' v u} J rv q => ⟨v, H', J.os, J.bare, J.base, J.hok, rv, q⟩
  cases fl with
  | ret u =>
    obtain ⟨v, σ', H', J, rv, q⟩ := hs
    exact fin J rv q
  | next =>
    obtain ⟨σ', H', J, q⟩ := hs
    exact fin (v := V.non) (u := Value.none) J rfl q
  | brk =>
    obtain ⟨_, _, _, q⟩ := hs
    exact False.elim q
  | cont =>
    obtain ⟨_, _, _, q⟩ := hs
    exact False.elim q
end

/-! ### super().__init__(e) -/
/-- what the written part says of an own error that is made by an __init__ of its own: OexC, its place in the chain -/
structure ErrC (K : PySem.W.Frag) (C : Addr) : Prop where
  ox : OexC K C
  sup : PySem.W.ks_superIn K C C "__init__" = some (some (.builtin "ValueError.__init__"))
  isV : PySem.W.subIn K (.ref C) (.type "ValueError") = some true
  opq : PySem.W.nsIn K cStatics "thirdparty.any" = some none
  me : PySem.W.mroIn K C (.ref C) = some true
/-- what the code object of the def tells -/
structure CodeF (K : PySem.W.Frag) (P : Program) (cda : Addr) : Prop where
  at_ : ∃ (ccl : Value) (cdd : Option Addr) (vs : Array Value) (ccs : Array (Option Value)) (file : Str) (tf : Tok), K.lookup cda = some ⟨ccl, cdd, .fields vs, ccs⟩ ∧ vs[2]? = some (.str file tf) ∧ ((P.main.file : Str) == file) = true
  noTop : (P.main.scope.names.lookup ("super" : Str)).isSome = false
/-- the reading: the text is reckoned, nothing more -/
def tSupI (C : Addr) (ta : TA) : TS := fun D σ H => ∃ a : Addr, σ[0]? = some (some (.ref a)) ∧ H a = some (exo a C none) ∧ ta σ H fun vs H1 => vs.length ≤ 1000 ∧ H1 a = some (exo a C none) ∧ D.nx σ H1
section
variable {X : Cx}
theorem psat_sup {body : List Stmt} {f cc cda C : Addr} {fd : FuncData} {oc : Value} {od : Option Addr} {osl : Array (Option Value)} {cl : Value} {cld : Option Addr} {csl : Array (Option Value)} {ar : Arg} {e : Expr} {es : List Expr} {ta : TA} {p0 p1 apos cpos pos : Pos} {pl : Sem Bool}
    (T : ErrC X.K C) (G : CodeF X.K X.prog cda)
    (hf : X.K.lookup f = some ⟨oc, od, .func fd, osl⟩) (hp : (fd.params.posonlyargs ++ fd.params.args).head? = some ar)
    (hcell : X.K.lookup cc = some ⟨cl, cld, .cell (some (.ref C)), csl⟩) (hsuper : X.mg "super" = none)
    (hfu : X.env.func = some f) (hco : X.env.code = .ref cda) (hcl : X.env.cells.lookup ("__class__" : Str) = some cc)
    (hks : X.env.scope.names.lookup ("super" : Str) = some .globalImplicit) (hkc : X.env.scope.names.lookup ("__class__" : Str) = some .free) (hka : X.env.scope.names.lookup ar.arg = some .local)
    (hN : X.N[0]? = some ar.arg) (ha : PA X (e :: es) ta)
    (hev : eval (.Call (.Attribute (.Call (.Name "super" p0) [] [] p1) "__init__" apos) (e :: es) [] cpos) X.env = (do
      let ov ← attributeBase (.Call (.Name "super" p0) [] [] p1) "__init__" X.env (eval (.Call (.Name "super" p0) [] [] p1) X.env)
      standAt apos.atName
      let (f, first) ← holding [ov] (getMethod ov "__init__" pl)
      callWith cpos f first (backTo cpos (starEach (e :: es) X.env)) []))
    (hst : starEach (e :: es) X.env = (false, eval e X.env) :: starEach es X.env) (hpl : (backTo cpos (starEach es X.env)).any (·.1) = false)
    (hsw : swapsWith (.Call (.Attribute (.Call (.Name "super" p0) [] [] p1) "__init__" apos) (e :: es) [] cpos) none pos.line X.env = pure false) (hint : interactive X.env = false) :
    PSat1 X (.func body X.env) (.Expr (.Call (.Attribute (.Call (.Name "super" p0) [] [] p1) "__init__" apos) (e :: es) [] cpos) pos) (tSupI C ta) := by
  refine ⟨fun pins s σ H D I h => ?_⟩
  obtain ⟨a, hσ, ea, q⟩ := h
  obtain ⟨ccl, cdd, vs, ccs, file, tf, hcode, hvs, hfile⟩ := G.at_
  obtain ⟨nm, qn, N, bs, bm, sn, sub, ab, col, dd, k0, k1, k2, k3, k5, hC, hbm⟩ := T.ox.cls
  have hcls : PySem.W.clsIn X.K C = some { name := nm, bases := bs, mro := .ref C :: bm, ns := N, qualname := qn, hasDict := true, slotNames := sn, subclasses := sub, abstract := ab, collection := col, hasDel := false } := by unfold PySem.W.clsIn; rw [hC] <;> rfl
  obtain ⟨t1, ho⟩ := exo_at I.hok ea
  obtain ⟨hh, g, d, t, os⟩ := s
  have XK := I.kIn
  obtain ⟨mb, hb1, hb2⟩ := I.mod.blt
  obtain ⟨m, hn, hl⟩ := id I.loc
  obtain ⟨u0, ru0, lk0⟩ := hl 0 ar.arg (.ref a) hN hσ (.inl hka)
  obtain rfl : u0 = Value.ref a := ru0
  have hv : m ar.arg = some (Value.ref a) := by
    rcases lk0 with ⟨_, e⟩ | ⟨z, _⟩
    · exact e
    · exfalso
      rcases z with z | z
      · have z' : X.env.scope.names.lookup ar.arg = some .cell := z
        rw [hka] at z'; cases z'
      · have z' : X.env.scope.names.lookup ar.arg = some .free := z
        rw [hka] at z'; cases z'
  refine PySem.ks_wpAt_Expr_any (PySem.ks_wpAt_MethodCall ?_ hev) hint hsw
  refine PySem.ks_wpAt_super_base (env := X.env) hks hkc (by decide) hfu (XK _ _ hf) rfl hp hco (XK _ _ hcode) rfl hvs hfile G.noTop ?_
  refine PySem.W.ks_loadName_global I.ok.kind hks (PySem.Calls.loadGlobal_builtin (by rw [I.ok.glob]; exact I.mod.glob.keeps I.bk) hsuper (by rw [I.ok.blt]; exact hb1.keeps I.bk) ((hb2 "super" (by decide)).trans (by decide +kernel)) ⟨rfl, ?_⟩)
  refine wpAny_loadName_free I.ok.kind hkc hcl ⟨_, XK _ _ hcell, rfl⟩ ?_
  refine wpAny_loadName_local I.ok.kind hka hn hv ?_
  refine ks_wpAny_isType_cls (XK _ _ hC) rfl ⟨rfl, ?_⟩
  refine ks_wpAny_call_super (XK _ _ hC) rfl ho rfl (fun c z => nomatch z) (PySem.W.looks_mroIn XK T.me) (fun h' e1 k1' => ?_)
  have I1 : Inv X pins σ H ⟨h', g, d, t, os⟩ := I.kept (t' := t) k1'
  have X1 := I1.kIn
  have ho1 := k1' _ _ ho
  have IA : PySem.W.InstAt h' a _ C none := ⟨ho1, rfl, rfl, trivial⟩
  refine PySem.W.kxs_getMethod PySem.W.kxs_ValueError e1 (PySem.W.looks_opaque X1 T.opq) (l₀ := .ref C :: bm) ?_ rfl X1 ?_ (IA.type.andThen (PySem.W.looks_subIn X1 T.isV)) (PySem.W.ks_ne X1 IA hcls) (by decide) ?_
  · exact fun A Q E s k q => wpAny_bind ((PySem.W.looks_clsIn X1 hcls) A _ E s k (wpAny_pure q))
  · have q1 := T.sup
    unfold PySem.W.ks_superIn at q1
    rw [hcls] at q1
    exact q1
  have I2 : Inv X pins σ H ⟨h'.push (PySem.W.kxs_mw "ValueError.__init__" a), g, d, t + 1, os⟩ := I1.kept (t' := t + 1) (fun b o z => Heap.get?_push_of_some _ z)
  have hu2 : (h'.push (PySem.W.kxs_mw "ValueError.__init__" a)).get? h'.objs.size = some (PySem.W.kxs_mw "ValueError.__init__" a) := Heap.get?_push_size _ rfl
  have hHu : H h'.objs.size = none := I1.hok.fresh (Nat.le_refl _)
  have J2 : Inv X ((h'.objs.size, PySem.W.kxs_mw "ValueError.__init__" a) :: pins) σ H ⟨h'.push (PySem.W.kxs_mw "ValueError.__init__" a), g, d, t + 1, os⟩ := by
    refine I2.pins_of fun p hp => ?_
    rcases List.mem_cons.mp hp with rfl | hp
    · exact ⟨hu2, hHu, Nat.ne_of_gt I1.lt, I1.nofs (Nat.le_refl _), fun v z => nomatch z⟩
    · exact I2.pin p (List.mem_append_right _ hp)
  have key : wpAny (model X.prog X.w) X.A (spliced (backTo cpos (starEach (e :: es) X.env))) (fun vs s₁ => PySem.W.KxsAt "ValueError.__init__" h'.objs.size a s₁.heap ∧ wpAny (model X.prog X.w) X.A (call (.ref h'.objs.size) vs) (fun _ => SP X pins D .next) X.xe s₁) X.xe ⟨h'.push (PySem.W.kxs_mw "ValueError.__init__" a), g, d, t + 1, os⟩ := by
    refine thn (ha.run cpos _ _ σ H _ J2 q) fun us s3 ⟨vs3, H1, I3, rv, hvl, ea1, qn⟩ => ?_
    have hu3 := (I3.pin (h'.objs.size, PySem.W.kxs_mw "ValueError.__init__" a) (List.mem_append_right _ List.mem_cons_self)).1
    refine ⟨hu3, ?_⟩
    have J3 : Inv X pins σ H1 s3 := I3.pins_of fun p hp => I3.pin p (List.mem_append_right _ (List.mem_cons_of_mem _ hp))
    obtain ⟨t2, ho3⟩ := exo_at J3.hok ea1
    have hus : us.length ≤ sizeLine := by
      rw [← Paired.length rv, sizeLine_eq]; omega
    have hC3 := J3.kIn _ _ hC
    obtain ⟨h3, g3, d3, tk3, os3⟩ := s3
    refine wpAny_call (codeAny_of_tree ?_)
    show wpAny _ X.A.in1 (callAny (.ref h'.objs.size) ⟨us, []⟩) _ _ _
    simp only [callAny]
    refine wpAny_bind (wpAny_load hu3 ?_)
    simp only [PySem.W.kxs_mw, show (Value.type "method-wrapper" == Value.type "method" || Value.type "method-wrapper" == Value.type "builtin_function_or_method" || Value.type "method-wrapper" == Value.type "method-wrapper") = true by decide, if_true]
    refine PySem.W.KFB.if_so (by decide) ?_
    refine wpAny_bind (PySem.W.check_bound_init F.excBase_ValueError.toExcCallFacts hC3 ho3 rfl ?_)
    refine wpAny_bind (wpAny_pure (wpAny_pure ?_))
    refine ⟨plainId_quiet F.excBase_ValueError.init.plain _, codeAny_builtin F.excBase_ValueError.initEntry ?_⟩
    refine PySem.W.exc_init_tree (cls := .ref C) (t0 := t2) (dv := none) (c2 := .none) (c3 := .none) (b4 := .bool false) ho3 hus fun h4 k4 hx4 ht4 => ?_
    have J := J3.write (t' := tk3) (x := a) (e := a) (o := exo a C none) (h' := h4) (by rw [ea1]; exact True.intro) (.inl rfl) k4 ⟨_, hx4⟩ (exo_ok hx4)
    have eu : upd H1 a (exo a C none) = H1 := by
      funext b
      by_cases hb : b = a
      · rw [hb, upd_same, ea1]
      · rw [upd_ne hb]
    rw [eu] at J
    exact ⟨σ, H1, J, qn⟩
  rw [hst] at key ⊢
  refine PySem.W.kxs_callWith (i := "ValueError.__init__") (x := a) (by show (false || (backTo cpos (starEach es X.env)).any (·.1)) = false; rw [hpl]; rfl) ?_
  exact PySem.Calls.evalArgs_plain key
end
end My

set_option Elab.async false
set_option linter.all false
set_option maxRecDepth 100000
set_option maxHeartbeats 4000000
/-! ### own errors: made, raised, caught, asked -/
namespace My
open PySem L2 NdefX
/-- __init__ of an error with one field: what it promises -/
def spErr1 (C : Addr) (f : Str) (P : V → Prop) : Sp := fun vs H Q _ => ∃ (a : Addr) (v : V), vs = [.ref a, v] ∧ P v ∧ H a = some (exo a C none) ∧ ∀ dx, H dx = none → dx ≠ a → Q .non (upd (upd H dx (exd dx [(f, v)])) a (exo a C (some dx)))
/-- .. with two fields -/
def spErr2 (C : Addr) (f g : Str) (P : V → V → Prop) : Sp := fun vs H Q _ => ∃ (a : Addr) (v u : V), vs = [.ref a, v, u] ∧ P v u ∧ H a = some (exo a C none) ∧ ∀ dx, H dx = none → dx ≠ a → Q .non (upd (upd (upd H dx (exd dx [(f, v)])) a (exo a C (some dx))) dx (exd dx [(g, u), (f, v)]))
theorem err_kp {H1 H2 : Hp} {a dx : Addr} {fs : List (Str × V)} (na : H1 a = none) (nd : H1 dx = none) (k : ∀ b, b ≠ a → b ≠ dx → H2 b = H1 b) : Kp [] H1 (upd (del H2 a) dx (.xd fs)) := fun b o _ e => by
  have h1 : b ≠ a := ne_of_none e na
  have h2 : b ≠ dx := ne_of_none e nd
  rw [upd_ne h2, del_ne h1, k b h1 h2]
  exact e
theorem err1_made {C : Addr} {f : Str} {P : V → Prop} {v : V} {H1 : Hp} {Q : XK} (hp : P v) (q : ∀ d H', H1 d = none → H' d = some (.xd [(f, v)]) → Kp [] H1 H' → Q (.ref C) (some d) H') :
    ([v] : List V).length ≤ 1000 ∧ ∀ a, H1 a = none → spErr1 C f P (.ref a :: ([v] ++ [])) (upd H1 a (exo a C none)) (fun v H2 => v = .non ∧ ∃ (d : Addr) (fs : List (Str × V)), H2 a = some (exo a C (some d)) ∧ H2 d = some (exd d fs) ∧ H1 d = none ∧ Q (.ref C) (some d) (upd (del H2 a) d (.xd fs))) (fun _ _ _ => False) := by
  refine ⟨by show 1 ≤ 1000; decide, fun a na => ⟨a, v, rfl, hp, upd_same, fun dx ndx hne => ?_⟩⟩
  rw [upd_ne hne] at ndx
  refine ⟨rfl, dx, _, upd_same, by rw [upd_ne hne]; exact upd_same, ndx, q dx _ ndx upd_same (err_kp na ndx fun b h1 h2 => ?_)⟩
  rw [upd_ne h1, upd_ne h2, upd_ne h1]
theorem err2_made {C : Addr} {f g : Str} {P : V → V → Prop} {v u : V} {H1 : Hp} {Q : XK} (hp : P v u) (q : ∀ d H', H1 d = none → H' d = some (.xd [(g, u), (f, v)]) → Kp [] H1 H' → Q (.ref C) (some d) H') :
    ([v, u] : List V).length ≤ 1000 ∧ ∀ a, H1 a = none → spErr2 C f g P (.ref a :: ([v, u] ++ [])) (upd H1 a (exo a C none)) (fun v H2 => v = .non ∧ ∃ (d : Addr) (fs : List (Str × V)), H2 a = some (exo a C (some d)) ∧ H2 d = some (exd d fs) ∧ H1 d = none ∧ Q (.ref C) (some d) (upd (del H2 a) d (.xd fs))) (fun _ _ _ => False) := by
  refine ⟨by show 2 ≤ 1000; decide, fun a na => ⟨a, v, u, rfl, hp, upd_same, fun dx ndx hne => ?_⟩⟩
  rw [upd_ne hne] at ndx
  refine ⟨rfl, dx, _, by rw [upd_ne hne.symm]; exact upd_same, upd_same, ndx, q dx _ ndx upd_same (err_kp na ndx fun b h1 h2 => ?_)⟩
  rw [upd_ne h2, upd_ne h1, upd_ne h2, upd_ne h1]
/-- what the written part says of an error class that is caught and asked -/
structure KitC (K : PySem.W.Frag) (C : Addr) : Prop where
  cl : (PySem.W.clsIn K C).isSome = true
  ga : PySem.W.findIn K (.ref C) "__getattribute__" = some (some (.builtin "BaseException.__getattribute__"))
  gg : PySem.W.findIn K (.ref C) "__getattr__" = some none
  bx : PySem.W.subIn K (.ref C) (.type "BaseException") = some true
  hc : PySem.W.findIn K (.ref C) "__class__" = some (some (.builtin "object.__class__"))
  hn : PySem.W.specialIn K (.builtin "object.__class__") "__get__" = some (some (.builtin "getset_descriptor.__get__"))
  ht : PySem.W.takesIn K (.builtin "object.__class__") = some true
  ob : PySem.W.mroIn K C (.type "object") = some true
/-- isinstance(e, c), e the error that the suite holds -/
def rIsX (K : PySem.W.Frag) (a : Addr) (cls : Value) (d : Option Addr) : List V → Hp → VK → Prop := fun xs H Q => ∃ (c : V) (cv : Value) (b : Bool) (D dd : Addr) (fs : List (Str × V)), xs = [.ref a, c] ∧ (∀ u, RelV c u → u = cv) ∧ cls = .ref D ∧ d = some dd ∧ H dd = some (.xd fs) ∧ KitC K D ∧ PySem.W.kitOne K (.ref D) cv = some b ∧ Q (.bl b) H
/-- .. a tuple of classes that was just laid -/
def rIsXT (K : PySem.W.Frag) (a : Addr) (cls : Value) (d : Option Addr) : List V → Hp → VK → Prop := fun xs H Q => ∃ (tp : Addr) (cs : List V) (us : List Value) (b : Bool) (D dd : Addr) (fs : List (Str × V)), xs = [.ref a, .ref tp] ∧ H tp = some (.tup cs) ∧ Paired ClsV cs us ∧ cls = .ref D ∧ d = some dd ∧ H dd = some (.xd fs) ∧ KitC K D ∧ PySem.W.kitAny K (.ref D) us = some b ∧ Q (.bl b) H
section
variable {X : Cx} {a : Addr} {oe : Obj} {cls : Value} {d : Option Addr} {pn : List (Addr × Obj)}
theorem inst_x {pins : List (Addr × Obj)} {s : Shared} {σ : L2.St} {H : Hp} {D dd : Addr} {fs : List (Str × V)} (I : Inv (X.suite a ((a, oe) :: pn)) pins σ H s) (hz : Zc (.ref D) (some dd) oe) (hf : ∃ vs, oe.data = .fields vs) (e : H dd = some (.xd fs)) : ∃ od, PySem.W.InstAt s.heap a oe D (some od) := by
  obtain ⟨ha, _⟩ := I.pin (a, oe) (List.mem_append_left _ List.mem_cons_self)
  obtain ⟨vs, hv⟩ := hf
  obtain ⟨mA, hns, _⟩ := (show ObjOk X.prog X.w H s.heap dd (.xd fs) from I.hok dd _ e)
  obtain ⟨od, ho, _⟩ := lookIn_ns hns
  exact ⟨od, ha, hz.1, by unfold PySem.W.notCls; rw [hv] <;> rfl, by rw [hz.2]; exact ho⟩
theorem call_isX (hz : Zc cls d oe) (hf : ∃ vs, oe.data = .fields vs) : CallR (X.suite a ((a, oe) :: pn)) (.builtin "isinstance") (rIsX X.K a cls d) := by
  intro pins s σ H xs us Q I r h
  obtain ⟨c, cv, b, D, dd, fs, rfl, hcv, rfl, rfl, ed, T, e, q⟩ := h
  obtain ⟨u1, u2, rfl, r1, r2⟩ := vals2 r
  cases (show u1 = Value.ref a from r1)
  cases hcv _ r2
  obtain ⟨od, J⟩ := inst_x I hz hf ed
  exact PySem.W.kia_one (PySem.W.kitx_exc T.cl T.ga T.gg T.bx T.hc T.hn T.ht T.ob) I.kIn J e (fun z => nomatch z) fun tk => ⟨.bl b, H, I.tok tk, rfl, q⟩
theorem call_isXT (hz : Zc cls d oe) (hf : ∃ vs, oe.data = .fields vs) : CallR (X.suite a ((a, oe) :: pn)) (.builtin "isinstance") (rIsXT X.K a cls d) := by
  intro pins s σ H xs us Q I r h
  obtain ⟨tp, cs, ws, b, D, dd, fs, rfl, hT, k, rfl, rfl, ed, T, e, q⟩ := h
  obtain ⟨u1, u2, rfl, r1, r2⟩ := vals2 r
  cases (show u1 = Value.ref a from r1)
  cases (show u2 = Value.ref tp from r2)
  obtain ⟨od, J⟩ := inst_x I hz hf ed
  obtain ⟨_, its, rv, o, h1, h2, n, h3⟩ := (show ObjOk X.prog X.w H s.heap tp (.tup cs) from I.hok tp _ hT)
  cases ClsV.all k rv
  obtain ⟨oc, od2, dt, sl⟩ := o
  simp only at h2 h3
  subst h2 h3
  exact PySem.W.kia_tup (PySem.W.kitx_exc T.cl T.ga T.gg T.bx T.hc T.hn T.ht T.ob) I.kIn J h1 e (fun z => nomatch z) fun tk => ⟨.bl b, H, I.tok tk, rfl, q⟩
end
end My

set_option Elab.async false
set_option linter.all false
set_option maxRecDepth 100000
set_option maxHeartbeats 4000000
/-! ### try with several clauses that bind the error -/
namespace My
open PySem PySem.Spec PyProof.Rows L2
/-- one clause: the class that it names, the slot of its name, its suite's reading -/
structure Cla where
  c : Value
  i : Nat
  ts : Addr → Value → Option Addr → TS
/-- behind a suite the name in slot i is gone -/
def Ends.off (i : Nat) (D : L2.Ends) : L2.Ends where
  nx σ H := D.nx (σ.set i none) H
  rt := D.rt
  bk σ H := D.bk (σ.set i none) H
  ct σ H := D.ct (σ.set i none) H
/-- what clauses, tried in turn, wish -/
def wClas (K : PySem.W.Frag) (W0 : WX) (D : L2.Ends) : List Cla → WX
  | [] => W0
  | k :: ks => fun cls d σ H => ∃ hit, PySem.W.exmOne K cls k.c = some hit ∧ (hit = true → ∀ a, H a = none → k.ts a cls d (Ends.off k.i D) (σ.set k.i (some (.ref a))) H) ∧ (hit = false → wClas K W0 D ks cls d σ H)
/-- the clauses as they are written -/
inductive Clauses (X : Cx) : List ExceptHandler → List Cla → Prop
  | nil : Clauses X [] []
  | cons {k : Cla} {ks : List Cla} {x n : Str} {b1 : Stmt} {bs : List Stmt} {p1 p2 : Pos} {hs : List ExceptHandler} (nm : Names X x k.c) (at_ : X.N[k.i]? = some n) (lo : X.env.kindOf n = some .local)
      (suite : ∀ (a : Addr) (oe : Obj) (cls : Value) (d : Option Addr) (pn : List (Addr × Obj)), Zc cls d oe → (∃ vs, oe.data = .fields vs) → PSs (X.suite a ((a, oe) :: pn)) (b1 :: bs) (k.ts a cls d)) (more : Clauses X hs ks) :
      Clauses X (.ExceptHandler (some (.Name x p1)) (some n) (b1 :: bs) p2 :: hs) (k :: ks)
section
variable {X : Cx} {pins : List (Addr × Obj)} {σ : L2.St} {H : Hp} {s0 sI : Shared} {h3 B : Heap} {a : Addr} {cls : Value} {d : Option Addr} {D : L2.Ends} {W0 : WX}
/-- the clauses are tried, the error being at a -/
theorem clauses_run (top : X.stack = X.env :: X.outer) (fr : X.env.frame = some X.env.locals) (nd : X.N.Nodup) (tk : Takes X W0) (J : Inv X pins σ H sI) (na : H a = none)
    (J' : ∀ h4, HandSPX.FlyingZ B (X.env :: X.outer) a (Zc cls d) h4 → h3.UpToSlots h4 → Inv X pins σ H { s0 with heap := h4 })
    (out : W0 cls d σ H → ∀ (h4 : Heap), HandSPX.HeldZ B (X.env :: X.outer) a (Zc cls d) X.env.locals h4 → h3.UpToSlots h4 → X.xe (.ref a) { s0 with heap := h4 })
    (fl : HandSPX.FlyingZ B (X.env :: X.outer) a (Zc cls d) h3) : ∀ {hs : List ExceptHandler} {ks : List Cla}, Clauses X hs ks → wClas X.K W0 D ks cls d σ H →
      wpAny (model X.prog X.w) X.A (handleBy (.ref a) X.env hs) (SP X pins D) X.xe { s0 with heap := h3 } := by
  have ok := J.ok
  have J3 := J' h3 fl (Heap.UpToSlots.refl _)
  have far : ∀ {h : Heap} {o : Obj} {vs : Array Value}, h.FunFrames B (X.env :: X.outer) → h.get? a = some o → o.data = .fields vs → a ∉ frs (X.env :: X.outer) := by
    intro h o vs ff e dd hm
    obtain ⟨_, o', e', other⟩ := ff.mem hm
    cases e.symm.trans e'
    exact other _ dd
  obtain ⟨oe, vs, he, hz, hd⟩ := fl.there
  have away := far fl.2.2.1 he hd
  have nL : a ≠ X.env.locals := by
    intro z
    exact away (List.mem_filterMap.mpr ⟨X.env, List.mem_cons_self, by rw [fr, z]⟩)
  have nF : a ∉ X.fs := by
    intro hm
    obtain ⟨e, me, q⟩ := List.mem_filterMap.mp hm
    exact away (List.mem_filterMap.mpr ⟨e, List.mem_cons_of_mem _ me, q⟩)
  have S3 := J3.suite he hd na nL nF
  intro hs ks C
  induction C with
  | nil =>
    intro q
    refine wpAny_handleBy_nil ?_
    obtain ⟨_, _, _, o1, v1, T1, _, _, e1, _, d1, f1, _⟩ := id fl
    unfold PySem.passOn
    refine wpAny_bind (wpAny_field e1 d1 f1 ?_)
    rw [if_neg (show ¬ ((Value.ref T1 == Value.none) = true) by simp)]
    have leave : wpAny (model X.prog X.w) X.A (setFlight (.ref a) X.env.frame) (fun _ s4 => wpAny (model X.prog X.w) X.A (throw (.ref a) : Sem Flow) (SP X pins D) X.xe s4) X.xe { s0 with heap := h3 } := by
      rw [fr]
      exact HandSPX.setFlight_upZ fl fun h4 held up => wpAny_throw (out q h4 held up)
    first | exact wpAny_bind (wpAny_pure (wpAny_bind leave)) | exact wpAny_bind leave
  | @cons k ks x n b1 bs p1 p2 hs nm at_ lo suite more ih =>
    rintro ⟨hit, e1, yes, no⟩
    refine wpAny_handleBy_cons (codeAny_handlers_test ?_) (by intro q; cases q)
    have looks : PySem.W.Looks (model X.prog X.w) h3 (typeOf (.ref a)) cls := by
      intro A Q E s kk q
      exact wpAny_typeOf_ref (kk _ _ he) (by rw [hz.1]; exact q)
    have named : ∀ {Q : Value → Shared → Prop} {E : Value → Shared → Prop}, Q k.c { s0 with heap := h3 } → wpAny (model X.prog X.w) (X.A.mark (some (.ref a))) (eval (.Name x p1) X.env) Q E { s0 with heap := h3 } := by
      intro Q E q
      obtain ⟨g1, g2, m1 | ⟨m1, m2, m3⟩⟩ := nm
      · exact ld_glob (X := X.suite a ((a, oe) :: (X.pn ++ pins))) S3 g1 m1 q g2
      · exact ld_blt (X := X.suite a ((a, oe) :: (X.pn ++ pins))) S3 g1 m1 m2 q m3 g2
    refine named ((PySem.W.exm_one (M := model X.prog X.w) J3.kIn looks e1).here ?_)
    cases hit with
    | false => exact (show wpAny _ X.A (handleBy (.ref a) X.env hs) _ _ _ from ih (no rfl))
    | true =>
      refine codeAny_handlers_suite_as (HandSPX.lands_againZ fl fun h4 fl4 up4 => ?_)
      have J4 := J' h4 fl4 up4
      obtain ⟨o4, v4, e4, z4, d4⟩ := fl4.there
      refine store_ok (X := X.suite a ((a, o4) :: (X.pn ++ pins))) (v := .ref a) (J4.suite e4 d4 na nL nF) nd at_ (.inl lo) rfl (fun s5 S5 => ?_) (.inr lo)
      refine wpAny_mono ((suite a o4 cls d (X.pn ++ pins) z4 ⟨_, d4⟩).run [] s5 _ H _ S5 (yes rfl a na)) ?_ fun _ _ z => z.elim
      rintro fl' s6 hsp
      have close : ∀ {τ : L2.St} {G : Hp} {Q : Shared → Prop}, Inv (X.suite a ((a, o4) :: (X.pn ++ pins))) [] τ G s6 → (∀ s7, Inv X pins (τ.set k.i none) G s7 → Q s7) →
          wpAny (model X.prog X.w) X.A (do bindName X.env n .none; unbindBehindTheSuite X.env n p2) (fun _ s7 => Q s7) X.xe s6 := fun S6 hq => gone_ok (S6.unsuite ok) nd at_ lo hq
      cases fl' with
      | ret u =>
        obtain ⟨v, τ, G, S6, r, q⟩ := hsp
        exact close S6 fun s7 J7 => ⟨_, _, _, J7, r, q⟩
      | _ =>
        obtain ⟨τ, G, S6, q⟩ := hsp
        exact close S6 fun s7 J7 => ⟨_, _, J7, q⟩
end
section
variable {X : Cx} {body : List Stmt} {h1 : ExceptHandler} {hs : List ExceptHandler} {ks : List Cla} {pos : Pos} {tb : WX → TS} {W0 : WX}
theorem ps_try_clauses (top : X.stack = X.env :: X.outer) (fr : X.env.frame = some X.env.locals) (nd : X.N.Nodup) (C : Clauses X (h1 :: hs) ks) (tk : Takes X W0)
    (hb : ∀ (W : WX) (pn : List (Addr × Obj)) (xe : Value → Shared → Prop), Takes (X.tr pn xe) W → PassesOwn (model X.prog X.w) X.A X.env xe → PSs (X.tr pn xe) body (tb W)) :
    PS X (.Try body (h1 :: hs) [] [] pos) (fun D σ H => tb (wClas X.K W0 D ks) D σ H) := by
  refine ⟨fun pins s σ H D I q0 => ?_⟩
  have ok := I.ok
  have frames : X.A.frames = some (X.env :: X.outer) := ok.frames.trans (by rw [top])
  let xe1 : Value → Shared → Prop := fun e s1 => wpAny (model X.prog X.w) X.A (noteFrame e X.env) (fun _ s2 => wpAny (model X.prog X.w) X.A (setFlight e none) (fun _ s3 => wpAny (model X.prog X.w) X.A (handleBy e X.env (h1 :: hs)) (SP X pins D) X.xe s3) X.xe s2) X.xe s1
  have takes : Takes (X.tr (X.pn ++ pins) xe1) (wClas X.K W0 D ks) := by
    rintro u s' ⟨a, B, sI, pins', σ', H', cls, d, rfl, J', nb, up, sky, na, os, ag, w⟩
    have J : Inv X pins σ' H' sI := J'.ofTry ok
    have sky' : Sky B (X.env :: X.outer) a (Zc cls d) X.env.locals s'.heap := by rw [← top]; exact sky
    refine Sky.land Zc.steady frames fr sky' fun h3 fl3 up3 => ?_
    refine clauses_run top fr nd tk J na (fun h4 fl4 up4 => J.landed nb fl4.1 ((up.trans up3).trans up4) os ag) (fun w0 h4 held up4 => ?_) fl3 C w
    exact tk _ _ ⟨a, B, sI, pins, σ', H', cls, d, rfl, J, nb, (up.trans up3).trans up4, .inr (.inr (by rw [top]; exact held)), na, os, ag, w0⟩
  refine wpAny_Try_except (wpAny_mono ((hb _ (X.pn ++ pins) xe1 takes PassesOwn.looking).run [] s σ H D (I.toTry _) q0) ?_ fun e s1 he => he)
  rintro f s1 hsp
  cases f with
  | next =>
    obtain ⟨τ, G, J, q⟩ := hsp
    exact wpAny_execs_nil ⟨τ, G, J.ofTry ok, q⟩
  | ret u =>
    obtain ⟨v, τ, G, J, r, q⟩ := hsp
    exact ⟨v, τ, G, J.ofTry ok, r, q⟩
  | _ =>
    obtain ⟨τ, G, J, q⟩ := hsp
    exact ⟨τ, G, J.ofTry ok, q⟩
end
section
variable {X : Cx} {body : List Stmt} {pos : Pos} {tb : WX → TS} {W0 : WX} {x1 n1 x2 n2 x3 n3 : Str} {c1 c2 c3 : Value} {i1 i2 i3 : Nat} {b1 b2 b3 : Stmt} {r1 r2 r3 : List Stmt} {p1 p2 p3 q1 q2 q3 : Pos} {t1 t2 t3 : Addr → Value → Option Addr → TS}
theorem ps_try_as2 (top : X.stack = X.env :: X.outer) (fr : X.env.frame = some X.env.locals) (nd : X.N.Nodup) (a1 : X.N[i1]? = some n1) (a2 : X.N[i2]? = some n2) (l1 : X.env.kindOf n1 = some .local) (l2 : X.env.kindOf n2 = some .local) (m1 : Names X x1 c1) (m2 : Names X x2 c2) (tk : Takes X W0)
    (hb : ∀ (W : WX) (pn : List (Addr × Obj)) (xe : Value → Shared → Prop), Takes (X.tr pn xe) W → PassesOwn (model X.prog X.w) X.A X.env xe → PSs (X.tr pn xe) body (tb W))
    (s1 : ∀ (a : Addr) (oe : Obj) (cls : Value) (d : Option Addr) (pn : List (Addr × Obj)), Zc cls d oe → (∃ vs, oe.data = .fields vs) → PSs (X.suite a ((a, oe) :: pn)) (b1 :: r1) (t1 a cls d))
    (s2 : ∀ (a : Addr) (oe : Obj) (cls : Value) (d : Option Addr) (pn : List (Addr × Obj)), Zc cls d oe → (∃ vs, oe.data = .fields vs) → PSs (X.suite a ((a, oe) :: pn)) (b2 :: r2) (t2 a cls d)) :
    PS X (.Try body [.ExceptHandler (some (.Name x1 p1)) (some n1) (b1 :: r1) q1, .ExceptHandler (some (.Name x2 p2)) (some n2) (b2 :: r2) q2] [] [] pos) (fun D σ H => tb (wClas X.K W0 D [⟨c1, i1, t1⟩, ⟨c2, i2, t2⟩]) D σ H) :=
  ps_try_clauses top fr nd (.cons m1 a1 l1 s1 (.cons m2 a2 l2 s2 .nil)) tk hb
theorem ps_try_as3 (top : X.stack = X.env :: X.outer) (fr : X.env.frame = some X.env.locals) (nd : X.N.Nodup) (a1 : X.N[i1]? = some n1) (a2 : X.N[i2]? = some n2) (a3 : X.N[i3]? = some n3) (l1 : X.env.kindOf n1 = some .local) (l2 : X.env.kindOf n2 = some .local) (l3 : X.env.kindOf n3 = some .local)
    (m1 : Names X x1 c1) (m2 : Names X x2 c2) (m3 : Names X x3 c3) (tk : Takes X W0)
    (hb : ∀ (W : WX) (pn : List (Addr × Obj)) (xe : Value → Shared → Prop), Takes (X.tr pn xe) W → PassesOwn (model X.prog X.w) X.A X.env xe → PSs (X.tr pn xe) body (tb W))
    (s1 : ∀ (a : Addr) (oe : Obj) (cls : Value) (d : Option Addr) (pn : List (Addr × Obj)), Zc cls d oe → (∃ vs, oe.data = .fields vs) → PSs (X.suite a ((a, oe) :: pn)) (b1 :: r1) (t1 a cls d))
    (s2 : ∀ (a : Addr) (oe : Obj) (cls : Value) (d : Option Addr) (pn : List (Addr × Obj)), Zc cls d oe → (∃ vs, oe.data = .fields vs) → PSs (X.suite a ((a, oe) :: pn)) (b2 :: r2) (t2 a cls d))
    (s3 : ∀ (a : Addr) (oe : Obj) (cls : Value) (d : Option Addr) (pn : List (Addr × Obj)), Zc cls d oe → (∃ vs, oe.data = .fields vs) → PSs (X.suite a ((a, oe) :: pn)) (b3 :: r3) (t3 a cls d)) :
    PS X (.Try body [.ExceptHandler (some (.Name x1 p1)) (some n1) (b1 :: r1) q1, .ExceptHandler (some (.Name x2 p2)) (some n2) (b2 :: r2) q2, .ExceptHandler (some (.Name x3 p3)) (some n3) (b3 :: r3) q3] [] [] pos) (fun D σ H => tb (wClas X.K W0 D [⟨c1, i1, t1⟩, ⟨c2, i2, t2⟩, ⟨c3, i3, t3⟩]) D σ H) :=
  ps_try_clauses top fr nd (.cons m1 a1 l1 s1 (.cons m2 a2 l2 s2 (.cons m3 a3 l3 s3 .nil))) tk hb
end
end My

set_option Elab.async false
set_option linter.all false
set_option maxRecDepth 100000
set_option maxHeartbeats 4000000
/-! ### d.values() as a value, list(d.values()) -/
namespace My
open PySem L2 PySem.W
/-- at q: the view of the values of the dict at d -/
def viewO (q d : Addr) : HO := .ext fun h => h.get? q = some ({ cls := .type "dict_values", data := .fields #[.ref d] } : Obj)
theorem view_ok {P : Program} {w : World} {H : Hp} {h : Heap} {q d : Addr} (e : h.get? q = some ({ cls := .type "dict_values", data := .fields #[.ref d] } : Obj)) : ObjOk P w H h q (viewO q d) := ⟨e, ⟨_, e⟩, fun _ _ z k => k _ z⟩
theorem view_at {P : Program} {w : World} {H : Hp} {h : Heap} {q d : Addr} (ok : HOk P w H h) (e : H q = some (viewO q d)) : h.get? q = some ({ cls := .type "dict_values", data := .fields #[.ref d] } : Obj) := by
  have x : ObjOk P w H h q (.ext fun h => h.get? q = some ({ cls := .type "dict_values", data := .fields #[.ref d] } : Obj)) := ok q _ e
  exact x.1
def tVals (td : TE) : TE := fun σ H Q => td σ H fun x H1 => ∃ (a : Addr) (kvs : List (Key × V)), x = .ref a ∧ H1 a = some (.dK kvs) ∧ ∀ q, H1 q = none → Q (.ref q) (upd H1 q (viewO q a))
def rListV : List V → Hp → VK → Prop := fun xs H Q => ∃ (q a : Addr) (kvs : List (Key × V)), xs = [.ref q] ∧ H q = some (viewO q a) ∧ H a = some (.dK kvs) ∧ ∀ p, H p = none → Q (.ref p) (upd H p (.lst (kvs.map fun kv => kv.2)))
theorem vals_of : ∀ {kvs : List (Key × V)} {vs : List (Key × Value)} {us : List Value}, KV kvs vs → us.length = vs.length → (∀ (j : Nat) (v : Value), us[j]? = some v → ∃ k, vs[j]? = some (k, v)) → Vals (kvs.map fun kv => kv.2) us
  | [], [], [], _, _, _ => .nil
  | p :: r, q :: vs, u :: us, h, hl, e => by
    cases h with
    | cons h1 h2 =>
      obtain ⟨k, e1⟩ := e 0 u rfl
      have e1' : q = (k, u) := Option.some.inj e1
      subst e1'
      exact .cons h1.2 (vals_of h2 (by simpa using hl) fun j v z => e (j + 1) v z)
  | [], _ :: _, _, h, _, _ => by cases h
  | _ :: _, [], _, h, _, _ => by cases h
  | [], [], _ :: _, _, hl, _ => by cases hl
  | _ :: _, _ :: _, [], _, hl, _ => by cases hl
section
variable {X : Cx} {o : Expr} {td : TE} {apos cpos : Pos}
theorem pe_values (he : PE X o td) (hbase : attributeBase o "values" X.env (eval o X.env) = eval o X.env := by rfl) (hline : (apos.endLine == cpos.line) = true := by rfl) : PE X (.Call (.Attribute o "values" apos) [] [] cpos) (tVals td) := by
  refine ⟨fun pins s σ H Q I h => ?_⟩
  refine wpAny_Call_method (T := "dict") (id := "dict.values") hbase rfl hline F.plainAttrs_dict F.slot_dict_values F.type_dict_values (thn (he.run pins s σ H _ I h) fun u s1 ⟨x, H1, I1, rx, d, kvs, ex, hd, q⟩ => ?_)
  subst ex
  cases (show u = Value.ref d from rx)
  obtain ⟨_, hs, vs, rel, dof⟩ := dk_of I1.hok hd
  refine ⟨dof.typeIs, dof.mapOf.noDict, ?_⟩
  have got := Heap.get?_push_size s1.heap (o := ({ cls := .type "dict_values", data := .fields #[.ref d] } : Obj)) rfl
  have J : Inv X pins σ (upd H1 s1.heap.objs.size (viewO s1.heap.objs.size d)) { s1 with heap := s1.heap.push { cls := .type "dict_values", data := .fields #[.ref d] } } := I1.laid (t' := s1.toks) (fun b ob q => Heap.get?_push_of_some _ q) (Nat.le_refl _) (view_ok got)
  exact method_meetsIn F.slot_dict_values F.entry_dict_values rfl (PySem.evalArgs_none ⟨rfl, dof.typeIs, F.args_dict_values_1 _, _, meets_dict_values (mixKind X.prog X.w) d hs, ⟨vs, dof⟩, ⟨.ref s1.heap.objs.size, _, J, rfl, q _ (I1.hok.fresh (Nat.le_refl _))⟩⟩)
theorem call_listV (hcalm : X.calm = true) : CallR X (.type "list") rListV := by
  intro pins s σ H xs us Q I r h
  obtain ⟨v, a, kvs, rfl, hv, ha, q⟩ := h
  obtain ⟨u, rfl, rx⟩ := vals1 r
  cases (show u = Value.ref v from rx)
  obtain ⟨z, hs, vs, rel, dof⟩ := dk_of I.hok ha
  obtain ⟨es, ep, raw, sz, each⟩ := dof.raw
  have hl := KV.length rel
  refine PySem.W.kdl_call (KdlSrc.rawValues (r := v) (d := a) (es := es) (ep := ep)) (I.ok.hd hcalm) ⟨⟨_, view_at I.hok hv, rfl, rfl⟩, raw⟩ (by omega) fun h' tk acc c' hk hD hacc => ?_
  have av : Vals (kvs.map fun kv => kv.2) acc.toList := vals_of rel (by rw [Array.length_toList, hacc.1, sz]) fun j u ej => by
    rw [Array.getElem?_toList] at ej
    obtain ⟨hi, rfl⟩ := hacc.2 j u ej
    have hj : j < vs.length := by omega
    have e1 : vs[j]? = some (vs[j].1, vs[j].2) := List.getElem?_eq_getElem hj
    have e2 := (each j hi _ _ e1).2
    exact ⟨vs[j].1, by rw [e1, e2]⟩
  refine ⟨.ref s.heap.objs.size, upd H s.heap.objs.size (.lst (kvs.map fun kv => kv.2)), I.laid (t' := tk) hk (Nat.le_refl _) ?_, rfl, q _ (I.hok.fresh (Nat.le_refl _))⟩
  exact (show ObjOk X.prog X.w _ _ _ (.lst _) from ⟨by rw [List.length_map]; exact z, acc.toList, c', av, by rw [Array.toArray_toList]; exact hD⟩)
end
end My

set_option Elab.async false
set_option linter.all false
set_option maxRecDepth 100000
/-! ### raised out of a walk of a dict: behind it the dict stands as before -/
namespace My
open PySem L2
/-- the same wish, asked where the walked dict is free again -/
def WLock (X : Cx) (W : WX) : WX := fun cls dx σ H => ∃ (d : Addr) (u : HO) (od : Obj), H d = some (.frz od u) ∧ (∀ o v, X.H_0 d ≠ some (.frz o v)) ∧ W cls dx σ (upd H d u)
theorem takes_lock {X : Cx} {W : WX} (tk : Takes X W) : Takes X (WLock X W) := by
  rintro e s' ⟨a, B, sI, pins, σ, H, cls, dx, rfl, I, nb, up, sky, na, os, ag, d, u, od, hd, nf, w⟩
  have ad : a ≠ d := fun z => by rw [z, hd] at na; cases na
  exact tk _ _ ⟨a, B, sI, pins, σ, upd H d u, cls, dx, rfl, I.unlock hd nf, nb, up, sky, by rw [upd_ne ad]; exact na, os, ag, w⟩
end My

set_option Elab.async false
set_option linter.all false
set_option maxRecDepth 100000
set_option maxHeartbeats 4000000
/-! ### a dict comprehension over any walk -/
namespace My
open PySem L2
theorem dc_it {J : It} {n : Nat} {G : Hp → Prop} {Y : Nat → Hp → V → Hp → Prop} (wk : Walk J n G Y) {g : TG} {tt : TT} {tk tv : TE} {vs : List Nat} {σ : L2.St} {H1 : Hp} {D : Addr} {Qd : Hp → Prop} (Inv : Nat → Hp → Prop) (begins : Inv 0 (upd H1 D (.dK []))) (may : ∀ i H, i ≤ n → Inv i H → G H)
    (turn : ∀ i x H H', i < n → Inv i H → Y i H x H' → g x (wipe σ vs) H' fun σ2 H2 => wipe σ2 vs = wipe σ vs ∧ tt σ2 H2 fun b H3 =>
      if b = true then tk σ2 H3 fun y H4 => tv σ2 H4 fun z H5 => ∃ kvs k, y = kV k ∧ H5 D = some (.dK kvs) ∧ kvs.length < sizeLine ∧ Inv (i + 1) (upd H5 D (.dK (putK kvs k z))) else Inv (i + 1) H3) (ends : ∀ H, Inv n H → Qd H) :
    ∃ W : Nat → Nat → Hp → Prop, (∃ m, W 0 m (upd H1 D (.dK []))) ∧ ∀ i m H, W i m H →
      (J.stop i H ∧ Qd H) ∨ (J.go i H ∧ ∃ Nx : Hp → Prop, (∀ H', Nx H' → ∃ m', m' < m ∧ W (i + 1) m' H') ∧ ∀ x H', J.yld i H x H' → g x (wipe σ vs) H' fun σ2 H2 => wipe σ2 vs = wipe σ vs ∧ tt σ2 H2 fun b H3 =>
        if b = true then tk σ2 H3 fun y H4 => tv σ2 H4 fun z H5 => ∃ kvs k, y = kV k ∧ H5 D = some (.dK kvs) ∧ kvs.length < sizeLine ∧ Nx (upd H5 D (.dK (putK kvs k z))) else Nx H3) := by
  refine ⟨fun i m H => m + i = n ∧ Inv i H, ⟨n, rfl, begins⟩, fun i m H h => ?_⟩
  obtain ⟨e, p⟩ := h
  have ok := may i H (by omega) p
  rcases Nat.lt_or_ge i n with lt | ge
  · exact .inr ⟨wk.goes i H lt ok, Inv (i + 1), fun H' p' => ⟨m - 1, by omega, by omega, p'⟩, fun x H' y => turn i x H H' lt p (wk.yields i H x H' lt ok y)⟩
  · have z : i = n := by omega
    subst z
    exact .inl ⟨wk.stops H ok, ends H p⟩
end My

set_option Elab.async false
set_option linter.all false
set_option maxRecDepth 100000
set_option maxHeartbeats 4000000
/-! ### a list comprehension of two clauses -/
namespace My
open PySem L2
/-- the inner clause: it adds to the list at D; Nx behind it -/
def tLcIn (wi : TI) (g : TG) (tt : TT) (te : TE) (vs : List Nat) (D : Addr) (σ : L2.St) (H : Hp) (Nx : Hp → Prop) : Prop := wi σ H fun J H1 => ∃ W : Nat → Nat → Hp → Prop, (∃ m, W 0 m H1) ∧ ∀ i m H, W i m H →
  (J.stop i H ∧ Nx H) ∨ (J.go i H ∧ ∃ N2 : Hp → Prop, (∀ H', N2 H' → ∃ m', m' < m ∧ W (i + 1) m' H') ∧ ∀ x H', J.yld i H x H' → g x (wipe σ vs) H' fun σ2 H2 => wipe σ2 vs = wipe σ vs ∧ tt σ2 H2 fun b H3 =>
    if b = true then te σ2 H3 fun y H4 => ∃ acc, H4 D = some (.lst acc) ∧ acc.length < sizeLine ∧ N2 (upd H4 D (.lst (acc ++ [y]))) else N2 H3)
def tLc2 (wi1 : TI) (g1 : TG) (tt1 : TT) (wi2 : TI) (g2 : TG) (tt2 : TT) (te : TE) (vs vs2 : List Nat) : TE := fun σ H Q => wi1 σ H fun J H1 => ∀ D, H1 D = none → ∃ W : Nat → Nat → Hp → Prop, (∃ m, W 0 m (upd H1 D (.lst []))) ∧ ∀ i m H, W i m H →
  (J.stop i H ∧ Q (.ref D) H) ∨ (J.go i H ∧ ∃ Nx : Hp → Prop, (∀ H', Nx H' → ∃ m', m' < m ∧ W (i + 1) m' H') ∧ ∀ x H', J.yld i H x H' → g1 x (wipe σ vs) H' fun σ2 H2 => wipe σ2 vs = wipe σ vs ∧ tt1 σ2 H2 fun b H3 =>
    if b = true then tLcIn wi2 g2 tt2 te vs2 D σ2 H3 Nx else Nx H3)
section
variable {X : Cx} {elt t1 it1 t2 it2 : Expr} {ifs1 ifs2 : List Expr} {scope : Scope} {pos : Pos} {wi1 wi2 : TI} {g1 g2 : TG} {tt1 tt2 : TT} {te : TE} {vs vs2 : List Nat}
theorem lc2_in (hx : X.xe = fun _ _ => False) (hc : X.calm = true) (hi : PI X t2 it2 wi2) (pg : PG X t2 g2) (pt : PTs X ifs2 tt2) (pe : PE X elt te) {pins : List (Addr × Obj)} {s : Shared} {σ : L2.St} {H : Hp} {D : Addr} {Nx : Hp → Prop} (I : Inv X pins σ H s) (h : tLcIn wi2 g2 tt2 te vs2 D σ H Nx) :
    wpAny (model X.prog X.w) X.A (eval it2 X.env) (fun xv s1 => wpAny (model X.prog X.w) X.A (pyIter xv) (fun itv s2 => ∀ (R : Result → Shared → Prop), (∀ s' H', Inv X pins (wipe σ vs2) H' s' → Nx H' → R (.ok .next) s') →
      codeAny (model X.prog X.w) X.A (.compStart (.ListComp elt [⟨t1, it1, ifs1, 0⟩, ⟨t2, it2, ifs2, 0⟩] scope pos) 1 itv (.ref D) X.env) R s2) (fun _ _ => False) s1) (fun _ _ => False) s := by
  have key := hi.run pins s σ H _ I h
  rw [hx] at key
  refine wpAny_mono key (fun xv s1 h1 => wpAny_mono h1 (fun itv s2 h2 => ?_) fun _ _ z => z) fun _ _ z => z
  obtain ⟨it, fp, tn, J, H2, e, I2, T, st2, f2, W, ⟨m0, w0⟩, turn⟩ := h2
  subst e
  intro R fin
  have stat : ∀ {H' : Hp}, (∀ b ∈ fp, H' b = none) → ∀ b ∈ fp, FpOk X pins H' b := fun hn b hb => ⟨hn b hb, (f2 b hb).2⟩
  have I2w : Inv X pins (wipe σ vs2) H2 s2 := I2.weak (wipe_length ..) (fun j v e => (wipe_some e).1)
  have loop : codeAny (model X.prog X.w) X.A (.compLoop (.ListComp elt [⟨t1, it1, ifs1, 0⟩, ⟨t2, it2, ifs2, 0⟩] scope pos) 1 (.ref it) (.ref D) X.env) R s2 := by
    refine codeAny_loop rfl (fun n s' => ∃ i H', Inv X pins (wipe σ vs2) H' s' ∧ tn i s'.heap ∧ (∀ b ∈ fp, H' b = none) ∧ W i n H') ?_ m0 ⟨0, H2, I2w, st2, fun b hb => (f2 b hb).1, w0⟩
    rintro n s3 ⟨i, H3, I3, st3, fr3, w3⟩
    show wpAny _ X.A ((compTurn (.ListComp elt [⟨t1, it1, ifs1, 0⟩, ⟨t2, it2, ifs2, 0⟩] scope pos) 1 (.ref it) (.ref D) X.env).onRaise (fun x => do noteFrame x X.env; theTreesLotGoes x)) _ _ s3
    refine wpAny_noted ?_
    rw [compTurn_list2_in]
    refine wpAny_bind (wpAny_standAt ?_)
    rcases turn i n H3 w3 with ⟨stop, qn⟩ | ⟨go, N2, hN, step⟩
    · refine wpAny_bind (thnF (T.done X rfl rfl rfl hc i pins s3 _ H3 (fun _ _ => False) I3 (stat fr3) st3 stop) fun r s4 hr => ?_)
      obtain ⟨hr, I4⟩ := hr
      subst hr
      exact wpAny_pure (fin s4 H3 I4 qn)
    · refine wpAny_bind (thnF (T.item X rfl rfl rfl hc i pins s3 _ H3 (fun _ _ => False) I3 (stat fr3) st3 go) fun r s4 hr => ?_)
      obtain ⟨u, hr, h4⟩ := hr
      subst hr
      refine wpAny_bind (thnF h4 fun _ s5 h5 => ?_)
      obtain ⟨x, H5, I5, r5, y5, st5, fr5⟩ := h5
      have I5' := I5.pinned (stat fr5) (T.obj _ _ st5)
      have kg := pg.run _ s5 _ H5 x u _ I5' r5 (step x H5 y5)
      rw [hx] at kg
      refine wpAny_bind (thnF kg fun _ s6 h6 => ?_)
      obtain ⟨σ6, H6, I6, hw6, q6⟩ := h6
      have kt := pt.run _ s6 σ6 H6 _ I6 q6
      rw [hx] at kt
      refine wpAny_bind (thnF kt fun b s7 h7 => ?_)
      obtain ⟨H7, I7, q7⟩ := h7
      have again : ∀ {s' : Shared} {H' : Hp}, Inv X (pins ++ pinsAt fp s5.heap) σ6 H' s' → N2 H' → ∃ m, m < n ∧ ∃ i H', Inv X pins (wipe σ vs2) H' s' ∧ tn i s'.heap ∧ (∀ b ∈ fp, H' b = none) ∧ W i m H' := fun {s' H'} I' n7 => by
        obtain ⟨m', hm, w7⟩ := hN H' n7
        have hl : (wipe σ vs2).length = σ6.length := by rw [← hw6, wipe_length]
        refine ⟨m', hm, i + 1, H', (I'.unpinned (pins := pins)).weak hl (fun j v e => ?_), T.keep _ _ _ st5 fun b hb o e => (I'.pin (b, o) (List.mem_append_right _ (List.mem_append_right _ (mem_pinsAt hb e)))).1, fun b hb => ?_, w7⟩
        · rw [← hw6] at e
          exact (wipe_some e).1
        · obtain ⟨o, e, d⟩ := T.obj _ _ st5 b hb
          exact (I'.pin (b, o) (List.mem_append_right _ (List.mem_append_right _ (mem_pinsAt hb e)))).2.1
      cases b with
      | false =>
        simp only [Bool.false_eq_true, if_false] at q7 ⊢
        exact wpAny_pure ⟨rfl, again I7 q7⟩
      | true =>
        simp only [if_true] at q7 ⊢
        have ke := pe.run _ s7 σ6 H7 _ I7 q7
        rw [hx] at ke
        refine wpAny_bind (wpAny_bind (thnF ke fun z s8 h8 => ?_))
        obtain ⟨yv, H8, I8, r8, acc, hD8, hz8, nx⟩ := h8
        exact wpAny_bind (app_ok (X := X) I8 hD8 hz8 r8 fun s9 I9 => wpAny_pure (wpAny_pure ⟨rfl, again I9 nx⟩))
  exact compStart_list2_in loop (T.self X.A 0 _ _ _ st2 loop)
theorem lc2_core {own : List (Str × Nat)} (hc : X.calm = true) (hN : X.N.Nodup) (first : PI X t1 it1 wi1) (ok : BlkOk X.N X.env.scope scope own) (sub : ∀ j ∈ vs2, j ∈ own.map (·.2))
    (P1 : ∀ (s : Shared) (H : Hp) (C : Addr) (cl : List (Str × Addr)) (fp : List Addr), PG (X.blk s H scope (compEnvC scope cl C X.env) fp) t1 g1) (C1 : ∀ (s : Shared) (H : Hp) (C : Addr) (cl : List (Str × Addr)) (fp : List Addr), PTs (X.blk s H scope (compEnvC scope cl C X.env) fp) ifs1 tt1)
    (I2 : ∀ (s : Shared) (H : Hp) (C : Addr) (cl : List (Str × Addr)) (fp : List Addr), PI (X.blk s H scope (compEnvC scope cl C X.env) fp) t2 it2 wi2)
    (P2 : ∀ (s : Shared) (H : Hp) (C : Addr) (cl : List (Str × Addr)) (fp : List Addr), PG (X.blk s H scope (compEnvC scope cl C X.env) fp) t2 g2) (C2 : ∀ (s : Shared) (H : Hp) (C : Addr) (cl : List (Str × Addr)) (fp : List Addr), PTs (X.blk s H scope (compEnvC scope cl C X.env) fp) ifs2 tt2)
    (el : ∀ (s : Shared) (H : Hp) (C : Addr) (cl : List (Str × Addr)) (fp : List Addr), PE (X.blk s H scope (compEnvC scope cl C X.env) fp) elt te)
    (h1 : ∀ x, foldedSetIterable it1 X.env x = pure x ) (h2 : ∀ (C : Addr) (cl : List (Str × Addr)) x, foldedSetIterable it2 (compEnvC scope cl C X.env) x = pure x ) {pins : List (Addr × Obj)} {s : Shared} {σ : L2.St} {H : Hp} {Q : VK} {use : Option (Value → Sem Unit)} {Qf : Value → Shared → Prop} (I : Inv X pins σ H s) (rd : tLc2 wi1 g1 tt1 wi2 g2 tt2 te (own.map (·.2)) vs2 σ H Q)
    (behind : ∀ D C s' m H', Inv X pins σ H' s' → Q (.ref D) H' → s'.heap.Ns C m → FpOk X pins H' C → compPost (model X.prog X.w) X.A X.xe use Qf (.ref D) C (.ok .next) s') :
    wpAny (model X.prog X.w) X.A (comprehension (.ListComp elt [⟨t1, it1, ifs1, 0⟩, ⟨t2, it2, ifs2, 0⟩] scope pos) scope X.env (firstIterPos [⟨t1, it1, ifs1, 0⟩, ⟨t2, it2, ifs2, 0⟩] pos) (newList []) false (eval it1 X.env) use) Qf X.xe s := by
  have closed : ∀ y ∈ scope.names, y.2 = .free → ∃ c, X.env.cells.lookup y.1 = some c := fun y hy e =>
    (ok.free y hy e).elim (fun k => I.ok.has _ (.inl k)) (fun k => I.ok.has _ (.inr k))
  refine wpAny_comprehension_free (use := use) rfl h1 (closure_ok closed) ok.kind (fun y hy e => by rw [ok.uniq y hy, e]) (thn (first.run pins s σ H _ I rd) fun xv sA hA => thn hA fun itv sB hB => ?_)
  obtain ⟨it, fp, tn, J, HB, rfl, IB, T, stB, fB, q⟩ := hB
  refine wpAny_newObj_type (newEnv_comp ?_) (by show 0 ≤ sizeLine; decide)
  generalize hD : sB.heap.objs.size = D
  have noD : HB D = none := IB.hok.fresh (Nat.le_of_eq hD)
  obtain ⟨W, ⟨m0, w0⟩, turn⟩ := q D noD
  generalize hs3 : ({ sB with heap := sB.heap.push { cls := .type "list", data := .seq ([] : List Value).toArray } } : Shared) = s3
  have I3 : Inv X pins σ (upd HB D (.lst [])) s3 := by
    rw [← hs3]
    exact IB.laid (t' := sB.toks) (fun b o e => Heap.get?_push_of_some _ e) (Nat.le_of_eq hD) ⟨Nat.zero_le _, [], 0, .nil, by rw [← hD]; exact Heap.get?_push_size _ rfl⟩
  have h3 : s3.heap = sB.heap.push { cls := .type "list", data := .seq ([] : List Value).toArray } := by rw [← hs3]
  have f3 : ∀ b ∈ fp, FpOk X pins (upd HB D (.lst [])) b ∧ b < s3.heap.objs.size := fun b hb => by
    obtain ⟨o, e, _⟩ := T.obj _ _ stB b hb
    have lt : b < sB.heap.objs.size := Heap.lt_size e
    have ne : b ≠ D := by rw [← hD]; exact Nat.ne_of_lt lt
    exact ⟨⟨by rw [upd_ne ne]; exact (fB b hb).1, (fB b hb).2⟩, by rw [h3, Heap.size_push]; exact Nat.lt_succ_of_lt lt⟩
  have st3 : tn 0 s3.heap := T.keep _ _ _ stB fun b _ o e => by rw [h3]; exact Heap.get?_push_of_some _ e
  have I4 := block_start I3 ok hN f3
  have p1 := P1 s3 (upd HB D (.lst [])) s3.heap.objs.size (cellsFrom (s3.heap.objs.size + 1) scope.names (cloFrom X.env.cells scope.names [])) fp
  have c1 := C1 s3 (upd HB D (.lst [])) s3.heap.objs.size (cellsFrom (s3.heap.objs.size + 1) scope.names (cloFrom X.env.cells scope.names [])) fp
  have i2 := I2 s3 (upd HB D (.lst [])) s3.heap.objs.size (cellsFrom (s3.heap.objs.size + 1) scope.names (cloFrom X.env.cells scope.names [])) fp
  have p2 := P2 s3 (upd HB D (.lst [])) s3.heap.objs.size (cellsFrom (s3.heap.objs.size + 1) scope.names (cloFrom X.env.cells scope.names [])) fp
  have c2 := C2 s3 (upd HB D (.lst [])) s3.heap.objs.size (cellsFrom (s3.heap.objs.size + 1) scope.names (cloFrom X.env.cells scope.names [])) fp
  have e2 := el s3 (upd HB D (.lst [])) s3.heap.objs.size (cellsFrom (s3.heap.objs.size + 1) scope.names (cloFrom X.env.cells scope.names [])) fp
  have fold2 := h2 s3.heap.objs.size (cellsFrom (s3.heap.objs.size + 1) scope.names (cloFrom X.env.cells scope.names []))
  show codeAny _ _ (.compStart (.ListComp elt [⟨t1, it1, ifs1, 0⟩, ⟨t2, it2, ifs2, 0⟩] scope pos) 0 (.ref it) (.ref D) (compEnvC scope (cellsFrom (s3.heap.objs.size + 1) scope.names (cloFrom X.env.cells scope.names [])) s3.heap.objs.size X.env)) (compPost (model X.prog X.w) X.A X.xe use Qf (.ref D) s3.heap.objs.size) { s3 with heap := pushCells (s3.heap.push { cls := .type "dict", data := .dict #[] }) scope.names }
  have nfp : ∀ b ∈ fp, (upd HB D (.lst [])) b = none := fun b hb => (f3 b hb).1.1
  generalize hce : compEnvC scope (cellsFrom (s3.heap.objs.size + 1) scope.names (cloFrom X.env.cells scope.names [])) s3.heap.objs.size X.env = ce at I4 p1 c1 i2 p2 c2 e2 fold2 ⊢
  have cL : ce.locals = s3.heap.objs.size := by subst hce; rfl
  generalize hH3 : upd HB D (.lst []) = H3 at I3 I4 p1 c1 i2 p2 c2 e2 w0 nfp f3
  generalize hs4 : ({ s3 with heap := pushCells (s3.heap.push { cls := .type "dict", data := .dict #[] }) scope.names } : Shared) = s4 at I4 ⊢
  have st4 : tn 0 s4.heap := T.keep _ _ _ st3 fun b _ o e => by rw [← hs4]; exact pushCells_keeps _ _ _ _ (Heap.get?_push_of_some _ e)
  have stat : ∀ {σ' : L2.St} {H' : Hp} {s' : Shared}, Inv (X.blk s3 H3 scope ce fp) [] σ' H' s' → (∀ b ∈ fp, H' b = none) → ∀ b ∈ fp, FpOk (X.blk s3 H3 scope ce fp) [] H' b := fun {σ' H' s'} I' hn b hb =>
    ⟨hn b hb, (I'.ok.exf b hb).1, I'.ok.exfs b hb, .inl hb, fun x c e => (I'.ok.exf b hb).2 x c e, fun p hp => absurd (show p ∈ ([] : List (Addr × Obj)) ++ [] from hp) (by simp)⟩
  have loop : codeAny (model X.prog X.w) X.A (.compLoop (.ListComp elt [⟨t1, it1, ifs1, 0⟩, ⟨t2, it2, ifs2, 0⟩] scope pos) 0 (.ref it) (.ref D) ce) (compPost (model X.prog X.w) X.A X.xe use Qf (.ref D) s3.heap.objs.size) s4 := by
    refine codeAny_loop rfl (fun n s' => ∃ i H', Inv (X.blk s3 H3 scope ce fp) [] (wipe σ (own.map (·.2))) H' s' ∧ tn i s'.heap ∧ (∀ b ∈ fp, H' b = none) ∧ W i n H') ?_ m0 ⟨0, H3, I4, st4, nfp, w0⟩
    rintro n s5 ⟨i, H5, I5, st5, n5, w5⟩
    show wpAny _ X.A ((compTurn (.ListComp elt [⟨t1, it1, ifs1, 0⟩, ⟨t2, it2, ifs2, 0⟩] scope pos) 0 (.ref it) (.ref D) ce).onRaise (fun x => do noteFrame x ce; theTreesLotGoes x)) _ _ s5
    refine wpAny_noted ?_
    rw [compTurn_list2_out]
    refine wpAny_bind (wpAny_standAt ?_)
    rcases turn i n H5 w5 with ⟨stop, qq⟩ | ⟨go, Nx, hNx, step⟩
    · refine wpAny_bind (thnF (T.done (X.blk s3 H3 scope ce fp) rfl rfl rfl hc i [] s5 _ H5 (fun _ _ => False) I5 (stat I5 n5) st5 stop) fun r s6 hr => ?_)
      obtain ⟨hr, I6⟩ := hr
      subst hr
      refine wpAny_pure ?_
      have I7 : Inv X pins σ H5 s6 := I3.call' (ch := fp) I6.os I6.base I6.hok I6.bare fun b hb => ⟨(f3 b hb).1.2.2.2.1, (f3 b hb).1.2.1, (f3 b hb).1.2.2.2.2.1, (f3 b hb).1.2.2.2.2.2⟩
      have nC : H5 s3.heap.objs.size = none := by
        have z : H5 ce.locals = none := I6.free
        rw [cL] at z
        exact z
      obtain ⟨m, hn, _⟩ := I6.loc
      have hn : s6.heap.Ns ce.locals m := hn
      rw [cL] at hn
      exact behind D s3.heap.objs.size s6 m H5 I7 qq hn (I3.fpOk (Nat.le_refl _) nC)
    · refine wpAny_bind (thnF (T.item (X.blk s3 H3 scope ce fp) rfl rfl rfl hc i [] s5 _ H5 (fun _ _ => False) I5 (stat I5 n5) st5 go) fun r s6 hr => ?_)
      obtain ⟨u, hr, h6⟩ := hr
      subst hr
      refine wpAny_bind (thnF h6 fun _ s7 h7 => ?_)
      obtain ⟨x, H7, I7, r7, y7, st7, n7⟩ := h7
      have I7' := I7.pinned (stat I7 n7) (T.obj _ _ st7)
      refine wpAny_bind (thnF (p1.run _ s7 _ H7 x u _ I7' r7 (step x H7 y7)) fun _ s8 h8 => ?_)
      obtain ⟨σ8, H8, I8, hw8, q8⟩ := h8
      refine wpAny_bind (thnF (c1.run _ s8 σ8 H8 _ I8 q8) fun b s9 h9 => ?_)
      obtain ⟨H9, I9, q9⟩ := h9
      have back : ∀ {s' : Shared} {σ' : L2.St} {H' : Hp}, Inv (X.blk s3 H3 scope ce fp) ([] ++ pinsAt fp s7.heap) σ' H' s' → (wipe σ (own.map (·.2))).length = σ'.length → (∀ (j : Nat) (v : V), (wipe σ (own.map (·.2)))[j]? = some (some v) → σ'[j]? = some (some v)) → Nx H' →
          ∃ m, m < n ∧ ∃ i H', Inv (X.blk s3 H3 scope ce fp) [] (wipe σ (own.map (·.2))) H' s' ∧ tn i s'.heap ∧ (∀ b ∈ fp, H' b = none) ∧ W i m H' := fun {s' σ' H'} I' hl hv nx => by
        obtain ⟨m', hm, w'⟩ := hNx H' nx
        refine ⟨m', hm, i + 1, H', (I'.unpinned (pins := [])).weak hl hv, T.keep _ _ _ st7 fun b hb o e => (I'.pin (b, o) (List.mem_append_right _ (List.mem_append_right _ (mem_pinsAt hb e)))).1, fun b hb => ?_, w'⟩
        obtain ⟨o, e, _⟩ := T.obj _ _ st7 b hb
        exact (I'.pin (b, o) (List.mem_append_right _ (List.mem_append_right _ (mem_pinsAt hb e)))).2.1
      have hl8 : (wipe σ (own.map (·.2))).length = σ8.length := by rw [← hw8, wipe_length]
      cases b with
      | false =>
        simp only [Bool.false_eq_true, if_false] at q9 ⊢
        exact wpAny_pure ⟨rfl, back I9 hl8 (fun j v e => by rw [← hw8] at e; exact (wipe_some e).1) q9⟩
      | true =>
        simp only [if_true] at q9 ⊢
        refine wpAny_bind (thnF (lc2_in (X := X.blk s3 H3 scope ce fp) (t1 := t1) (it1 := it1) (ifs1 := ifs1) (scope := scope) (pos := pos) rfl hc i2 p2 c2 e2 I9 q9) fun xv s10 h10 => ?_)
        refine wpAny_bind (wpAny_standAt (wpAny_bind (wpAny_of_eq (fold2 xv) ?_)))
        refine wpAny_bind (wpAny_holding (thnF h10 fun itv s11 h11 => ?_))
        refine wpAny_bind (wpAny_runOwn ?_)
        refine h11 _ fun s' H' I' nx => ?_
        refine wpAny_pure ⟨rfl, back I' (by rw [wipe_length, wipe_length]; rw [wipe_length] at hl8; exact hl8) (fun j v e => ?_) nx⟩
        rw [← hw8] at e
        have z := wipe_some e
        rw [wipe_out fun hj => z.2 (sub j hj)]
        exact z.1
  exact codeAny_compStart_list loop (T.self X.A 0 _ _ _ st4 loop)
/-- [elt for t1 in it1 if .. for t2 in it2 if ..] -/
theorem pe_lc2 {own : List (Str × Nat)} (hc : X.calm = true) (hN : X.N.Nodup) (first : PI X t1 it1 wi1) (ok : BlkOk X.N X.env.scope scope own) (sub : ∀ j ∈ vs2, j ∈ own.map (·.2))
    (P1 : ∀ (s : Shared) (H : Hp) (C : Addr) (cl : List (Str × Addr)) (fp : List Addr), PG (X.blk s H scope (compEnvC scope cl C X.env) fp) t1 g1) (C1 : ∀ (s : Shared) (H : Hp) (C : Addr) (cl : List (Str × Addr)) (fp : List Addr), PTs (X.blk s H scope (compEnvC scope cl C X.env) fp) ifs1 tt1)
    (I2 : ∀ (s : Shared) (H : Hp) (C : Addr) (cl : List (Str × Addr)) (fp : List Addr), PI (X.blk s H scope (compEnvC scope cl C X.env) fp) t2 it2 wi2)
    (P2 : ∀ (s : Shared) (H : Hp) (C : Addr) (cl : List (Str × Addr)) (fp : List Addr), PG (X.blk s H scope (compEnvC scope cl C X.env) fp) t2 g2) (C2 : ∀ (s : Shared) (H : Hp) (C : Addr) (cl : List (Str × Addr)) (fp : List Addr), PTs (X.blk s H scope (compEnvC scope cl C X.env) fp) ifs2 tt2)
    (el : ∀ (s : Shared) (H : Hp) (C : Addr) (cl : List (Str × Addr)) (fp : List Addr), PE (X.blk s H scope (compEnvC scope cl C X.env) fp) elt te)
    (h1 : ∀ x, foldedSetIterable it1 X.env x = pure x := by intro _; rfl) (h2 : ∀ (C : Addr) (cl : List (Str × Addr)) x, foldedSetIterable it2 (compEnvC scope cl C X.env) x = pure x := by intro _ _ _; rfl) :
    PE X (.ListComp elt [⟨t1, it1, ifs1, 0⟩, ⟨t2, it2, ifs2, 0⟩] scope pos) (tLc2 wi1 g1 tt1 wi2 g2 tt2 te (own.map (·.2)) vs2) := by
  refine ⟨fun pins s σ H Q I rd => ?_⟩
  rw [eval_ListComp]
  refine lc2_core hc hN first ok sub P1 C1 I2 P2 C2 el h1 h2 I rd fun D C s' m H' I' q hn f => ⟨m, hn, fun h'' sb => ?_⟩
  obtain ⟨f0, f1, f2, f3, f4, f5⟩ := f
  exact ⟨.ref D, H', I'.turned (t' := s'.toks) (fun b o hb e => (sb.2 b hb).trans e) f0 f1 f3 f4 f5, rfl, q⟩
/-- name = [..] on one row, the name a local -/
theorem ps_setLc2 {i : Nat} {y : Str} {py spos : Pos} {own : List (Str × Nat)} (hc : X.calm = true) (hN : X.N.Nodup) (hy : X.N[i]? = some y) (hyl : X.env.scope.names.lookup y = some .local)
    (hsw : swapsWith (.ListComp elt [⟨t1, it1, ifs1, 0⟩, ⟨t2, it2, ifs2, 0⟩] scope pos) (some (.Name y py)) spos.line X.env = pure true) (first : PI X t1 it1 wi1) (ok : BlkOk X.N X.env.scope scope own) (sub : ∀ j ∈ vs2, j ∈ own.map (·.2))
    (P1 : ∀ (s : Shared) (H : Hp) (C : Addr) (cl : List (Str × Addr)) (fp : List Addr), PG (X.blk s H scope (compEnvC scope cl C X.env) fp) t1 g1) (C1 : ∀ (s : Shared) (H : Hp) (C : Addr) (cl : List (Str × Addr)) (fp : List Addr), PTs (X.blk s H scope (compEnvC scope cl C X.env) fp) ifs1 tt1)
    (I2 : ∀ (s : Shared) (H : Hp) (C : Addr) (cl : List (Str × Addr)) (fp : List Addr), PI (X.blk s H scope (compEnvC scope cl C X.env) fp) t2 it2 wi2)
    (P2 : ∀ (s : Shared) (H : Hp) (C : Addr) (cl : List (Str × Addr)) (fp : List Addr), PG (X.blk s H scope (compEnvC scope cl C X.env) fp) t2 g2) (C2 : ∀ (s : Shared) (H : Hp) (C : Addr) (cl : List (Str × Addr)) (fp : List Addr), PTs (X.blk s H scope (compEnvC scope cl C X.env) fp) ifs2 tt2)
    (el : ∀ (s : Shared) (H : Hp) (C : Addr) (cl : List (Str × Addr)) (fp : List Addr), PE (X.blk s H scope (compEnvC scope cl C X.env) fp) elt te)
    (h1 : ∀ x, foldedSetIterable it1 X.env x = pure x := by intro _; rfl) (h2 : ∀ (C : Addr) (cl : List (Str × Addr)) x, foldedSetIterable it2 (compEnvC scope cl C X.env) x = pure x := by intro _ _ _; rfl) :
    PS X (.Assign [.Name y py] (.ListComp elt [⟨t1, it1, ifs1, 0⟩, ⟨t2, it2, ifs2, 0⟩] scope pos) spos) (tAsg (tLc2 wi1 g1 tt1 wi2 g2 tt2 te (own.map (·.2)) vs2) (gName i)) := by
  refine ⟨fun pins s σ H D I h => ?_⟩
  rw [exec_Assign_Name_used _ _ _ _ hsw]
  refine wpAny_bind (wpAny_standAt (wpAny_bind ?_))
  show wpAny _ X.A (do let _ ← comprehension (.ListComp elt [⟨t1, it1, ifs1, 0⟩, ⟨t2, it2, ifs2, 0⟩] scope pos) scope X.env (firstIterPos [⟨t1, it1, ifs1, 0⟩, ⟨t2, it2, ifs2, 0⟩] pos) (newList []) false (eval it1 X.env) (some (assign (.Name y py) X.env))) _ _ s
  have h : tLc2 wi1 g1 tt1 wi2 g2 tt2 te (own.map (·.2)) vs2 σ H (fun x H1 => gName i x σ H1 D.nx) := h
  refine wpAny_bind (thn (lc2_core (Qf := fun _ s' => SP X pins D .next s') hc hN first ok sub P1 C1 I2 P2 C2 el h1 h2 I h fun L C s' m H' I' q hn f => ?_) fun _ s' hq => wpAny_pure (wpAny_pure hq))
  show wpAny _ _ (assign (.Name y py) X.env (.ref L)) _ _ _
  refine wpAny_assign_Name (store_ok2 (v := V.ref L) I' hN hy (.inl hyl) rfl (fun s2 J ⟨a, sb, ha⟩ => ?_) (.inr hyl))
  obtain ⟨f0, f1, f2, f3, f4, f5⟩ := f
  have ne : C ≠ a := ha.elim (fun z => by rw [z]; exact f1) fun z e => f4 y a z e.symm
  exact ⟨m, hn.sameBut sb ne, fun h3 sb3 => ⟨_, H', J.turned (t' := s2.toks) (fun b o hb e => (sb3.2 b hb).trans e) f0 f1 f3 f4 f5, q⟩⟩
end
end My

set_option Elab.async false
set_option linter.all false
set_option maxRecDepth 100000
set_option maxHeartbeats 4000000
/-! ### [te for p in range(m) for q in range(n)] -/
namespace My
open PySem L2
theorem it_range {m : Nat} {W0 : Hp → Prop} (Pv : Nat → Hp → Prop) {H : Hp} (h0 : Pv 0 H) {Nx : Hp → Prop} {g : TG} {tt : TT} {te : TE} {vs : List Nat} {σ : L2.St} {D : Addr}
    (step : ∀ i H', i < m → Pv i H' → g (.int (i : Nat)) (wipe σ vs) H' fun σ2 H2 => wipe σ2 vs = wipe σ vs ∧ tt σ2 H2 fun b H3 => if b = true then te σ2 H3 fun y H4 => ∃ acc, H4 D = some (.lst acc) ∧ acc.length < sizeLine ∧ Pv (i + 1) (upd H4 D (.lst (acc ++ [y]))) else Pv (i + 1) H3)
    (fin : ∀ H', Pv m H' → Nx H') : ∃ W : Nat → Nat → Hp → Prop, (∃ k, W 0 k H) ∧ ∀ i k H, W i k H →
  ((Itr 0 m).stop i H ∧ Nx H) ∨ ((Itr 0 m).go i H ∧ ∃ N2 : Hp → Prop, (∀ H', N2 H' → ∃ m', m' < k ∧ W (i + 1) m' H') ∧ ∀ x H', (Itr 0 m).yld i H x H' → g x (wipe σ vs) H' fun σ2 H2 => wipe σ2 vs = wipe σ vs ∧ tt σ2 H2 fun b H3 =>
    if b = true then te σ2 H3 fun y H4 => ∃ acc, H4 D = some (.lst acc) ∧ acc.length < sizeLine ∧ N2 (upd H4 D (.lst (acc ++ [y]))) else N2 H3) := by
  refine ⟨fun i k H => k + i = m ∧ Pv i H, ⟨m, rfl, h0⟩, fun i k H h => ?_⟩
  obtain ⟨e, p⟩ := h
  rcases Nat.lt_or_ge i m with lt | ge
  · refine .inr ⟨lt, Pv (i + 1), fun H' p' => ⟨k - 1, by omega, by omega, p'⟩, fun x H' y => ?_⟩
    obtain ⟨rfl, rfl⟩ := y
    rw [Int.zero_add]
    exact step i H' lt p
  · have z : i = m := by omega
    exact .inl ⟨by subst z; first | rfl | exact Nat.le_refl _, fin H (by rw [← z]; exact p)⟩
theorem lc2Rg {ta tb : TA} {te : TE} {σ : L2.St} {H : Hp} {Q : VK} {p q : Nat} (m n : Nat) (hm : m ≤ 1000) (hn : n ≤ 1000) (Pv : Addr → Nat → Nat → Hp → Prop)
    (ha : ∀ R : List V → Hp → Prop, R [.int (m : Nat)] H → ta σ H R)
    (hb : ∀ (D : Addr) (i : Nat) (H' : Hp) (R : List V → Hp → Prop), H D = none → i < m → Pv D i 0 H' → R [.int (n : Nat)] H' → tb ((wipe σ [p, q]).set p (some (.int (i : Nat)))) H' R)
    (hw1 : ∀ x, wipe ((wipe σ [p, q]).set p (some x)) [p, q] = wipe σ [p, q])
    (hw2 : ∀ x y, wipe ((wipe ((wipe σ [p, q]).set p (some x)) [q]).set q (some y)) [q] = wipe ((wipe σ [p, q]).set p (some x)) [q])
    (h0 : ∀ D, H D = none → Pv D 0 0 (upd H D (.lst [])))
    (body : ∀ (D : Addr) (i j : Nat) (H' : Hp), H D = none → i < m → j < n → Pv D i j H' → te ((wipe ((wipe σ [p, q]).set p (some (.int (i : Nat)))) [q]).set q (some (.int (j : Nat)))) H' fun y H4 => ∃ acc, H4 D = some (.lst acc) ∧ acc.length < sizeLine ∧ Pv D i (j + 1) (upd H4 D (.lst (acc ++ [y]))))
    (nextRow : ∀ (D : Addr) (i : Nat) (H' : Hp), Pv D i n H' → Pv D (i + 1) 0 H') (fin : ∀ D H', H D = none → Pv D m 0 H' → Q (.ref D) H') :
    tLc2 (iRng1 ta) (gName p) tYes (iRng1 tb) (gName q) tYes te [p, q] [q] σ H Q := by
  refine ha _ ⟨(m : Nat), rfl, by omega, by omega, fun D nD => ?_⟩
  rw [Int.toNat_natCast]
  refine ⟨fun i k H' => k + i = m ∧ Pv D i 0 H', ⟨m, rfl, h0 D nD⟩, fun i k H1 h => ?_⟩
  obtain ⟨e, pv⟩ := h
  rcases Nat.lt_or_ge i m with lt | ge
  · refine .inr ⟨lt, Pv D (i + 1) 0, fun H' p' => ⟨k - 1, by omega, by omega, p'⟩, fun x H' y => ?_⟩
    obtain ⟨rfl, rfl⟩ := y
    rw [Int.zero_add]
    refine ⟨hw1 _, ?_⟩
    simp only [tYes, if_true]
    refine hb D i H' _ nD lt pv ⟨(n : Nat), rfl, by omega, by omega, ?_⟩
    rw [Int.toNat_natCast]
    exact it_range (W0 := fun _ => True) (Pv D i) pv (fun j H2 hj pj => ⟨hw2 _ _, body D i j H2 nD lt hj pj⟩) fun H2 pj => nextRow D i H2 pj
  · have z : i = m := by omega
    exact .inl ⟨by subst z; first | rfl | exact Nat.le_refl _, fin D H1 nD (by rw [← z]; exact pv)⟩
end My

set_option Elab.async false
set_option linter.all false
set_option maxRecDepth 100000
set_option maxHeartbeats 4000000
/-! ### slices of mapped lists -/
namespace My
open PySem L2
theorem cut_ij {α : Type} {f : α → V} {ts : List α} {i j : Nat} (h : i ≤ j) : cutV (ts.map f) (some (i : Int)) (some (j : Int)) = ((ts.drop i).take (j - i)).map f := by
  unfold cutV
  rw [HT.sIx_nat, HT.sIx_nat, List.length_map, ← List.map_drop, ← List.map_take]
  congr 1
  rcases Nat.le_total i ts.length with z | z
  · rw [Nat.min_eq_left z]
    rcases Nat.le_total j ts.length with z2 | z2
    · rw [Nat.min_eq_left z2]
    · rw [Nat.min_eq_right z2, List.take_of_length_le (by rw [List.length_drop]; omega), List.take_of_length_le (by rw [List.length_drop]; omega)]
  · rw [Nat.min_eq_right z, List.drop_length, List.drop_of_length_le z]; simp
theorem cut_0j {α : Type} {f : α → V} {ts : List α} {j : Nat} : cutV (ts.map f) none (some (j : Int)) = (ts.take j).map f := by
  have := cut_ij (f := f) (ts := ts) (Nat.zero_le j)
  rw [List.drop_zero, Nat.sub_zero] at this
  exact this
theorem cut_i {α : Type} {f : α → V} {ts : List α} {i : Nat} : cutV (ts.map f) (some (i : Int)) none = (ts.drop i).map f := by
  unfold cutV
  rw [HT.sIx_nat, ← List.map_drop, ← List.map_take]
  congr 1
  show (ts.drop (min i (ts.map f).length)).take ((ts.map f).length - _) = _
  rw [List.length_map]
  rcases Nat.le_total i ts.length with z | z
  · rw [Nat.min_eq_left z, List.take_of_length_le (by rw [List.length_drop]; omega)]
  · rw [Nat.min_eq_right z, List.drop_length, List.drop_of_length_le z]; simp
end My

set_option Elab.async false
set_option linter.all false
set_option maxRecDepth 100000
set_option maxHeartbeats 4000000
/-! ### methods and called objects within a try -/
namespace My
open PySem L2 StX PySem.Spec PyProof.Rows
def tMethT (C : Addr) (m : Str) (sp : Sp) (E : L2.St → XK) (ta : TE) (t : TA) : TE := fun σ H Q => ta σ H fun x H1 => ∃ a dx fs, x = .ref a ∧ H1 a = some (.ins C dx fs) ∧ fs.lookup m = none ∧ t σ H1 fun vs H2 => sp (.ref a :: vs) H2 Q (E σ)
section
variable {X : Cx} {CX : CXT} {C g : Addr} {fd : FuncData} {ps : List Str} {sp : Sp} {E : L2.St → XK} {k : Nat} {o e : Expr} {es : List Expr} {ta : TE} {t : TA} {pos apos : Pos} {m : Str} {f : Addr}
theorem pe_methT {pl : Sem Bool} (c : Cls X.K C) (hm : Meth X.K C m f) (F : FnOk X.prog X.w X.K X.mg X.base CX k f fd ps sp) (hr : Room k X.A) (hb : Binds X.K fd ps []) (hx : ∀ σ, PassesAt CX X σ (E σ)) (he : PE X o ta) (ha : PA X (e :: es) t)
    (hst : starEach (e :: es) X.env = (false, eval e X.env) :: starEach es X.env := by rfl) (hpl : (backTo pos (starEach es X.env)).any (·.1) = false := by rfl)
    (ht : eval (.Call (.Attribute o m apos) (e :: es) [] pos) X.env = (do
      let ov ← eval o X.env
      standAt apos.atName
      let (f, first) ← holding [ov] (getMethod ov m pl)
      callWith pos f first (backTo pos (starEach (e :: es) X.env)) (backToKw pos (keywordEach [] X.env))) := by rfl) :
    PE X (.Call (.Attribute o m apos) (e :: es) [] pos) (tMethT C m sp E ta t) := by
  refine ⟨fun pins s σ H Q I h => ?_⟩
  refine PySem.W.methodCall_KW (pl := pl) (thn (he.run pins s σ H _ I h) fun u s1 ⟨x, H1, I1, rx, a, dx, fs, ex, ea, l, q⟩ => ?_) ht
  subst ex
  obtain rfl : u = Value.ref a := rx
  refine getmeth_ok I1 ea c hm l ?_
  refine PySem.W.callWith_K (first := [.ref a]) (h₀ := X.base) I.ok.mod.kin hm.kp (thn (ha.run pos pins s1 σ H1 _ I1 q) fun us s2 ⟨vs, H2, I2, r, q2⟩ => ⟨I2.kIn, ?_⟩) hst hpl
  exact run_fnS (us := .ref a :: us) (vs := .ref a :: vs) F hr hb (hx σ) I2 (.cons rfl r) q2
def tCallOT (C : Addr) (sp : Sp) (E : L2.St → XK) (tf : TE) (t : TA) : TE := fun σ H Q => tf σ H fun y H1 => ∃ a, y = V.ref a ∧ t σ H1 fun vs H2 => (∃ dx fs, H2 a = some (.ins C dx fs)) ∧ sp (V.ref a :: vs) H2 Q (E σ)
theorem run_fnRS {pins : List (Addr × Obj)} {σ : L2.St} {H : Hp} {s : Shared} {f : Addr} {Q : VK} {E : L2.St → XK} {us : List Value} {vs : List V} (F : FnR X.prog X.w X.K X.mg X.base CX k f sp) (hr : Room k X.A) (hx : PassesAt CX X σ (E σ)) (I : Inv X pins σ H s) (r : Vals vs us) (h : sp vs H Q (E σ)) :
    codeAny (model X.prog X.w) X.A (.call (.ref f) ⟨us, []⟩) (fun r s' => match r with | .ok (.ret v) => EP X pins σ Q v s' | .ok _ => False | .error e => X.xe e s') s := by
  refine codeAny_mono (F X.A X.stack s H us vs Q (E σ) hr I.env0 r h) fun r s' hq => ?_
  cases r with
  | error e => exact hx pins H s e s' I hq
  | ok fl =>
    cases fl with
    | ret u => exact I.after hq
    | next => exact False.elim hq
    | brk => exact False.elim hq
    | cont => exact False.elim hq
theorem pe_callOT {fe : Expr} {tf : TE} (c : CallO X.K C g) (F : FnR X.prog X.w X.K X.mg X.base CX k g sp) (hr : Room k X.A) (hx : ∀ σ, PassesAt CX X σ (E σ)) (hf : PE X fe tf) (ha : PA X (e :: es) t)
    (ht : eval (.Call fe (e :: es) [] pos) X.env = (do callWith pos (← eval fe X.env) [] (backTo pos (starEach (e :: es) X.env)) (backToKw pos (keywordEach [] X.env))) := by rfl)
    (he : starEach (e :: es) X.env = (false, eval e X.env) :: starEach es X.env := by rfl) (hpl : (backTo pos (starEach es X.env)).any (·.1) = false := by rfl) : PE X (.Call fe (e :: es) [] pos) (tCallOT C sp E tf t) := by
  refine ⟨fun pins s σ H Q I h => ?_⟩
  refine Call_ (thn (hf.run pins s σ H _ I h) fun u s1 ⟨y, H1, I1, ry, a, ey, q⟩ => ?_) ht
  subst ey
  obtain rfl : u = Value.ref a := ry
  refine callO_with (thn (ha.run pos pins s1 σ H1 _ I1 q) fun us s2 ⟨vs, H2, I2, r, hi, q2⟩ => ?_) he hpl
  obtain ⟨ox, od, J, hd⟩ := insC_at I2 (.inr hi)
  exact ⟨⟨C, ox, od, J, hd⟩, wpAny_call (PySem.W.kco_code I2.kIn J hd c.at_ c.fn c.fi (run_fnRS (us := .ref a :: us) (vs := .ref a :: vs) F hr (hx σ) I2 (.cons rfl r) q2))⟩
end
end My

set_option Elab.async false
set_option linter.all false
set_option maxRecDepth 100000
set_option maxHeartbeats 4000000
/-! ### dicts whose keys are tuples of tuples (of ints, texts and None) -/
namespace My
open PySem L2
mutual
/-- the value v is the nested key k, its tuples as they stand in H -/
inductive NkAt (H : Hp) : V → NestedKey → Prop where
  | non : NkAt H .non .none
  | int (i : Int) : NkAt H (.int i) (.num i)
  | str (x : Str) : NkAt H (.str x) (.text x)
  | tup {a : Addr} {xs : List V} {ks : List NestedKey} (e : H a = some (.tup xs)) (h : NkAll H xs ks) : NkAt H (.ref a) (.tup ks)
inductive NkAll (H : Hp) : List V → List NestedKey → Prop where
  | nil : NkAll H [] []
  | cons {v : V} {k : NestedKey} {vs : List V} {ks : List NestedKey} (h : NkAt H v k) (t : NkAll H vs ks) : NkAll H (v :: vs) (k :: ks)
end
mutual
theorem NkAt.tp {H H' : Hp} (ht : ∀ b ys, H b = some (.tup ys) → H' b = some (.tup ys)) : ∀ {v : V} {k : NestedKey}, NkAt H v k → NkAt H' v k
  | _, _, .non => .non
  | _, _, .int i => .int i
  | _, _, .str x => .str x
  | _, _, .tup e h => .tup (ht _ _ e) (NkAll.tp ht h)
theorem NkAll.tp {H H' : Hp} (ht : ∀ b ys, H b = some (.tup ys) → H' b = some (.tup ys)) : ∀ {vs : List V} {ks : List NestedKey}, NkAll H vs ks → NkAll H' vs ks
  | _, _, .nil => .nil
  | _, _, .cons h t => .cons (NkAt.tp ht h) (NkAll.tp ht t)
end
mutual
theorem nk_is {P : Program} {w : World} {H : Hp} {h : Heap} (ok : HOk P w H h) : ∀ {v : V} {k : NestedKey} {u : Value}, NkAt H v k → RelV v u → NestedIs h k u
  | _, _, u, .non, r => by
    obtain rfl : u = Value.none := r
    exact .none
  | _, _, u, .int i, r => by
    obtain ⟨t, rfl⟩ := (show ∃ t, u = Value.int i t from r)
    exact .int i t
  | _, _, u, .str x, r => by
    obtain ⟨t, rfl⟩ := (show ∃ t, u = Value.str x t from r)
    exact .text x t
  | _, _, u, .tup (a := a) (xs := xs) e h, r => by
    obtain rfl : u = Value.ref a := r
    obtain ⟨_, its, rv, o, h1, h2, n, h3⟩ := (show ObjOk P w H _ a (.tup xs) from ok a _ e)
    exact .tup h1 h2 h3 (by simpa using nka_is ok h rv)
theorem nka_is {P : Program} {w : World} {H : Hp} {h : Heap} (ok : HOk P w H h) : ∀ {vs : List V} {ks : List NestedKey} {us : List Value}, NkAll H vs ks → Vals vs us → NestedAll h ks us
  | _, _, _, .nil, .nil => .nil
  | _, _, _, .cons a t, .cons r rs => .cons (nk_is ok a r) (nka_is ok t rs)
end
abbrev NE := NestedKey × Addr × V
/-- the entries as told, and as they stand -/
abbrev NRel (xs : List NE) (ys : List (NestedKey × Addr × Value)) : Prop := Paired (fun x y => y.1 = x.1 ∧ y.2.1 = x.2.1 ∧ RelV x.2.2 y.2.2) xs ys
def DnO (P : Program) (w : World) (d : Addr) (xs : List NE) : HO := .ext fun h => xs.length ≤ sizeLine ∧ (d == sysModules) = false ∧ ∃ o es ep ys, NRel xs ys ∧ h.get? d = some o ∧ o.ExactDict ∧ o.data = .dict es ep ∧ es.toList = ys.map (entryOfKey (nestedKind P w)) ∧ (ys.map (·.1)).Nodup
/-- the keys' tuples stand -/
def NKeys (H : Hp) (xs : List NE) : Prop := ∀ x ∈ xs, NkAt H (.ref x.2.1) x.1 ∧ x.1.depth ≤ 8
/-- at d a dict with the nested keys and values kvs (the empty one is of every kind) -/
def DnAt (P : Program) (w : World) (H : Hp) (d : Addr) (kvs : List (NestedKey × V)) : Prop := (H d = some (.dK []) ∧ kvs = []) ∨ ∃ xs, H d = some (DnO P w d xs) ∧ xs.map (fun x => (x.1, x.2.2)) = kvs ∧ NKeys H xs
def valN (kvs : List (NestedKey × V)) (k : NestedKey) : Option V := (kvs.find? fun p => decide (p.1 = k)).map (·.2)
def putN (kvs : List (NestedKey × V)) (k : NestedKey) (v : V) : List (NestedKey × V) := if (valN kvs k).isSome then kvs.map (fun p => if p.1 = k then (p.1, v) else p) else kvs ++ [(k, v)]
def putX (xs : List NE) (k : NestedKey) (a : Addr) (v : V) : List NE := if (valN (xs.map fun x => (x.1, x.2.2)) k).isSome then xs.map (fun x => if x.1 = k then (x.1, x.2.1, v) else x) else xs ++ [(k, a, v)]
theorem NRel.val {xs : List NE} {ys : List (NestedKey × Addr × Value)} (r : NRel xs ys) (k : NestedKey) : RelO (valN (xs.map fun x => (x.1, x.2.2)) k) ((atKey ys k).map (·.2)) := by
  induction r with
  | nil => exact True.intro
  | @cons x y xs ys h t ih =>
    unfold valN atKey at ih ⊢
    rw [List.map_cons, List.find?_cons, List.find?_cons]
    by_cases e : x.1 = k
    · rw [decide_eq_true e, decide_eq_true (h.1.trans e)]
      exact h.2.2
    · rw [decide_eq_false e, decide_eq_false (fun z => e (h.1.symm.trans z))]
      exact ih
theorem NRel.repl {xs : List NE} {ys : List (NestedKey × Addr × Value)} (r : NRel xs ys) (k : NestedKey) {v : V} {u : Value} (rv : RelV v u) : NRel (xs.map (fun x => if x.1 = k then (x.1, x.2.1, v) else x)) (ys.map (putAt k u)) := by
  induction r with
  | nil => exact .nil
  | @cons x y xs ys h t ih =>
    rw [List.map_cons, List.map_cons]
    refine .cons ?_ ih
    unfold putAt
    by_cases e : x.1 = k
    · rw [if_pos e, if_pos (h.1.trans e)]
      exact ⟨h.1, h.2.1, rv⟩
    · rw [if_neg e, if_neg (fun z => e (h.1.symm.trans z))]
      exact h
theorem NRel.put {xs : List NE} {ys : List (NestedKey × Addr × Value)} (r : NRel xs ys) (k : NestedKey) (a : Addr) {v : V} {u : Value} (rv : RelV v u) : NRel (putX xs k a v) (storedH ys k a u) := by
  have e : (valN (xs.map fun x => (x.1, x.2.2)) k).isSome = (atKey ys k).isSome := by
    rw [(r.val k).isSome_eq, Option.isSome_map]
  unfold putX storedH
  rw [e]
  by_cases q : (atKey ys k).isSome = true
  · rw [if_pos q, if_pos q]; exact r.repl k rv
  · rw [if_neg q, if_neg q]; exact Paired.snoc r ⟨rfl, rfl, rv⟩
theorem putX_kvs {xs : List NE} {k : NestedKey} {a : Addr} {v : V} : (putX xs k a v).map (fun x => (x.1, x.2.2)) = putN (xs.map fun x => (x.1, x.2.2)) k v := by
  unfold putX putN
  split
  · rw [List.map_map, List.map_map]
    refine List.map_congr_left fun x _ => ?_
    by_cases h : x.1 = k <;> simp [h]
  · simp
theorem putX_len (xs : List NE) (k : NestedKey) (a : Addr) (v : V) : (putX xs k a v).length ≤ xs.length + 1 := by
  unfold putX
  split
  · rw [List.length_map]; omega
  · simp
theorem NKeys.put {H : Hp} {xs : List NE} {k : NestedKey} {a : Addr} {v : V} (h : NKeys H xs) (hk : NkAt H (.ref a) k) (hd : k.depth ≤ 8) : NKeys H (putX xs k a v) := by
  intro x hx
  unfold putX at hx
  split at hx
  · obtain ⟨y, hy, rfl⟩ := List.mem_map.mp hx
    have := h y hy
    by_cases e : y.1 = k
    · rw [if_pos e]; exact this
    · rw [if_neg e]; exact this
  · rcases List.mem_append.mp hx with hx | hx
    · exact h x hx
    · rw [List.mem_singleton.mp hx]; exact ⟨hk, hd⟩
section
variable {P : Program} {w : World} {H : Hp} {h : Heap} {d : Addr} {kvs : List (NestedKey × V)}
theorem dn_rd (ok : HOk P w H h) (e : DnAt P w H d kvs) : kvs.length ≤ sizeLine ∧ (d == sysModules) = false ∧ Mut (H d) ∧ ∃ xs ys, xs.map (fun x => (x.1, x.2.2)) = kvs ∧ NKeys H xs ∧ NRel xs ys ∧ h.DictOfH (nestedKind P w) d ys := by
  rcases e with ⟨e, rfl⟩ | ⟨xs, e, rfl, hk⟩
  · obtain ⟨_, hd, vs, rel, o, es, ep, h1, h2, h3, h4, h5, h6⟩ := dk_of ok e
    refine ⟨Nat.zero_le _, hd, by rw [e]; exact True.intro, [], [], rfl, (fun _ h => nomatch h), .nil, o, es, ep, h1, h2, h3, ?_, (fun _ h => nomatch h), List.nodup_nil⟩
    cases rel
    generalize hl : es.toList = l at h5
    cases h5
    rfl
  · obtain ⟨⟨z, hd, o, es, ep, ys, r, h1, h2, h3, h4, h5⟩, _, _⟩ := (show ObjOk P w H h d (DnO P w d xs) from ok d _ e)
    refine ⟨by rw [List.length_map]; exact z, hd, by rw [e]; exact True.intro, xs, ys, rfl, hk, r, o, es, ep, h1, h2, h3, h4, fun y hy => ?_, h5⟩
    have all : ∀ {xs : List NE} {ys : List (NestedKey × Addr × Value)}, NRel xs ys → NKeys H xs → ∀ y ∈ ys, (nestedKind P w).is h y.1 y.2.1 := by
      intro xs ys q
      induction q with
      | nil => intro _ y hy; exact nomatch hy
      | @cons x y xs ys hq t ih =>
        intro hk y' hy
        rcases List.mem_cons.mp hy with e | hy
        · subst e
          have := hk x List.mem_cons_self
          rw [hq.1, hq.2.1]
          exact ⟨nk_is ok this.1 rfl, this.2⟩
        · exact ih (fun x hx => hk x (List.mem_cons_of_mem _ hx)) y' hy
    exact all r hk y hy
theorem dn_typeIs {s : Shared} (ok : HOk P w H s.heap) (e : DnAt P w H d kvs) : s.TypeIs (.ref d) "dict" := by
  obtain ⟨_, _, _, _, _, _, _, _, dd⟩ := dn_rd ok e
  exact dd.typeIs
theorem dn_new {H' : Hp} {h' : Heap} {xs : List NE} {ys : List (NestedKey × Addr × Value)} (z : xs.length ≤ sizeLine) (hd : (d == sysModules) = false) (r : NRel xs ys) (dd : h'.DictOfH (nestedKind P w) d ys) : ObjOk P w H' h' d (DnO P w d xs) := by
  obtain ⟨o, es, ep, h1, h2, h3, h4, _, h5⟩ := dd
  refine ⟨⟨z, hd, o, es, ep, ys, r, h1, h2, h3, h4, h5⟩, ⟨o, h1⟩, fun a b q k => ?_⟩
  obtain ⟨z, hd, o, es, ep, ys, r, h1, h2, h3, h4, h5⟩ := q
  exact ⟨z, hd, o, es, ep, ys, r, k o h1, h2, h3, h4, h5⟩
end
section
variable {X : Cx} {pins : List (Addr × Obj)} {σ : L2.St} {H : Hp} {s : Shared} {d a : Addr} {kvs : List (NestedKey × V)} {k : NestedKey} {v : V} {r : Value} {A : Around} {E : Value → Shared → Prop}
theorem n_key (I : Inv X pins σ H s) (hk : NkAt H (.ref a) k) (h8 : k.depth ≤ 8) : (nestedKind X.prog X.w).is s.heap k a := ⟨nk_is I.hok hk rfl, h8⟩
/-- k in d -/
theorem n_in {Q : Value → Shared → Prop} (hu : (nestedKind X.prog X.w).room A.in1) (I : Inv X pins σ H s) (e : DnAt X.prog X.w H d kvs) (hk : NkAt H (.ref a) k) (h8 : k.depth ≤ 8) (h : ∀ s', Inv X pins σ H s' → Q (.bool (valN kvs k).isSome) s') :
    wpAny (model X.prog X.w) A (compareOp .In (.ref a) (.ref d)) Q E s := by
  obtain ⟨z, hd, _, xs, ys, rfl, nk, rel, dd⟩ := dn_rd I.hok e
  refine wpAny_in_heap hu (n_key I hk h8) hd dd ?_
  have q := (rel.val k).isSome_eq
  rw [Option.isSome_map] at q
  rw [← q]
  exact h _ (I.tok _)
theorem n_notIn {Q : Value → Shared → Prop} (hu : (nestedKind X.prog X.w).room A.in1) (I : Inv X pins σ H s) (e : DnAt X.prog X.w H d kvs) (hk : NkAt H (.ref a) k) (h8 : k.depth ≤ 8) (h : ∀ s', Inv X pins σ H s' → Q (.bool (!(valN kvs k).isSome)) s') :
    wpAny (model X.prog X.w) A (compareOp .NotIn (.ref a) (.ref d)) Q E s := by
  obtain ⟨z, hd, _, xs, ys, rfl, nk, rel, dd⟩ := dn_rd I.hok e
  show wpAny _ _ (do return .bool (!(← contains (.ref d) (.ref a)))) Q E s
  refine wpAny_bind (wpAny_contains_heap hu (n_key I hk h8) hd dd (wpAny_pure ?_))
  have q := (rel.val k).isSome_eq
  rw [Option.isSome_map] at q
  rw [← q]
  exact h _ (I.tok _)
/-- d[k], there -/
theorem n_getItem {Q : Value → Shared → Prop} (hu : (nestedKind X.prog X.w).room A.in1) (I : Inv X pins σ H s) (e : DnAt X.prog X.w H d kvs) (hk : NkAt H (.ref a) k) (h8 : k.depth ≤ 8) (l : valN kvs k = some v) (h : ∀ w' s', Inv X pins σ H s' → RelV v w' → Q w' s') :
    wpAny (model X.prog X.w) A (getItem (.ref d) (.ref a)) Q E s := by
  obtain ⟨z, hd, _, xs, ys, rfl, nk, rel, dd⟩ := dn_rd I.hok e
  obtain ⟨w', hw, rw'⟩ := RelO.some_of (v := v) (o := (atKey ys k).map (·.2)) (by rw [← l]; exact rel.val k)
  obtain ⟨p, hp, hp2⟩ := Option.map_eq_some_iff.mp hw
  refine wpAny_getItem_heap hu (n_key I hk h8) dd hp ?_
  rw [hp2]
  exact h w' _ (I.tok _) rw'
theorem n_stored {h' : Heap} {t' : Nat} {xs : List NE} {ys : List (NestedKey × Addr × Value)} (I : Inv X pins σ H s) (mu : Mut (H d)) (hd : (d == sysModules) = false) (z : xs.length < sizeLine) (nk : NKeys H xs) (rel : NRel xs ys) (hk : NkAt H (.ref a) k) (h8 : k.depth ≤ 8) (rv : RelV v r)
    (dd : h'.DictOfH (nestedKind X.prog X.w) d (storedH ys k a r)) (hs : Heap.SameBut d s.heap h') : Inv X pins σ (upd H d (DnO X.prog X.w d (putX xs k a v))) { s with heap := h', toks := t' } ∧ DnAt X.prog X.w (upd H d (DnO X.prog X.w d (putX xs k a v))) d (putN (xs.map fun x => (x.1, x.2.2)) k v) := by
  have hl : (putX xs k a v).length ≤ sizeLine := by have := putX_len xs k a v; omega
  refine ⟨d_write I mu hs ?_ (dn_new hl hd (rel.put k a rv) dd), .inr ⟨_, upd_same, putX_kvs, fun x hx => ?_⟩⟩
  · obtain ⟨q, _, _, hq, _⟩ := dd
    exact ⟨q, hq⟩
  · obtain ⟨a1, a2⟩ := nk.put hk h8 (v := v) x hx
    refine ⟨a1.tp fun b ys e => ?_, a2⟩
    rw [upd_ne]
    · exact e
    · intro z
      subst z
      rw [e] at mu
      exact mu
/-- d[k] = v -/
theorem n_setItem {Q : Unit → Shared → Prop} (hu : (nestedKind X.prog X.w).room A.in1) (I : Inv X pins σ H s) (e : DnAt X.prog X.w H d kvs) (hk : NkAt H (.ref a) k) (h8 : k.depth ≤ 8) (hz : kvs.length < sizeLine) (rv : RelV v r)
    (h : ∀ ob s', DnAt X.prog X.w (upd H d ob) d (putN kvs k v) → Inv X pins σ (upd H d ob) s' → Q () s') : wpAny (model X.prog X.w) A (setItem (.ref d) (.ref a) r) Q E s := by
  obtain ⟨z, hd, mu, xs, ys, rfl, nk, rel, dd⟩ := dn_rd I.hok e
  rw [List.length_map] at hz
  have hl : ys.length ≤ sizeLine := by rw [← Paired.length rel]; omega
  refine wpAny_setItem_heap (hsz := hl) hu (n_key I hk h8) dd fun h' dd' hs => ?_
  obtain ⟨I', e'⟩ := n_stored I mu hd hz nk rel hk h8 rv dd' hs
  exact h _ _ e' I'
/-- d.setdefault(k, v) -/
theorem n_setdefault {Q : Value → Shared → Prop} (hu : (nestedKind X.prog X.w).room A.in1) (I : Inv X pins σ H s) (e : DnAt X.prog X.w H d kvs) (hk : NkAt H (.ref a) k) (h8 : k.depth ≤ 8) (hz : kvs.length < sizeLine) (rv : RelV v r)
    (h1 : ∀ v' w' s', valN kvs k = some v' → Inv X pins σ H s' → RelV v' w' → Q w' s')
    (h2 : valN kvs k = none → ∀ ob s', DnAt X.prog X.w (upd H d ob) d (putN kvs k v) → Inv X pins σ (upd H d ob) s' → Q r s') : wpAny (model X.prog X.w) A (call (.builtin "dict.setdefault") [.ref d, .ref a, r]) Q E s := by
  obtain ⟨z, hd, mu, xs, ys, rfl, nk, rel, dd⟩ := dn_rd I.hok e
  rw [List.length_map] at hz
  have hl : ys.length ≤ sizeLine := by rw [← Paired.length rel]; omega
  have rk := rel.val k
  refine call_setdefault_heap (hsz := hl) hu (n_key I hk h8) hd dd (fun p hp => ?_) fun hn h' dd' hs => ?_
  · rw [hp] at rk
    cases hv : valN (xs.map fun x => (x.1, x.2.2)) k with
    | none => rw [hv] at rk; exact False.elim rk
    | some v' =>
      rw [hv] at rk
      exact h1 v' p.2 _ hv (I.tok _) rk
  · rw [hn] at rk
    obtain ⟨I', e'⟩ := n_stored I mu hd hz nk rel hk h8 rv dd' hs
    refine h2 ?_ _ _ e' I'
    cases hv : valN (xs.map fun x => (x.1, x.2.2)) k with
    | none => rfl
    | some v' => rw [hv] at rk; exact False.elim rk
end
/-! ### readings and rules -/
/-- y is a nested key in H -/
def NKey (H : Hp) (y : V) (k : NestedKey) : Prop := ∃ a, y = .ref a ∧ NkAt H y k ∧ k.depth ≤ 8
/-- d[y] -/
def tNGet (P : Program) (w : World) (td ty : TE) : TE := fun σ H Q => td σ H fun x H1 => ty σ H1 fun y H2 => ∃ d kvs k v, x = .ref d ∧ DnAt P w H2 d kvs ∧ NKey H2 y k ∧ valN kvs k = some v ∧ Q v H2
/-- y in d, y not in d -/
def tNIn (P : Program) (w : World) (ty td : TE) : TE := fun σ H Q => ty σ H fun y H1 => td σ H1 fun x H2 => ∃ d kvs k, x = .ref d ∧ DnAt P w H2 d kvs ∧ NKey H2 y k ∧ Q (.bl (valN kvs k).isSome) H2
def tNNotIn (P : Program) (w : World) (ty td : TE) : TE := fun σ H Q => ty σ H fun y H1 => td σ H1 fun x H2 => ∃ d kvs k, x = .ref d ∧ DnAt P w H2 d kvs ∧ NKey H2 y k ∧ Q (.bl (!(valN kvs k).isSome)) H2
/-- d[y] = v -/
def sNPut (P : Program) (w : World) (td ty tv : TE) : TS := fun D σ H => tv σ H fun v H1 => td σ H1 fun x H2 => ty σ H2 fun y H3 => ∃ d kvs k, x = .ref d ∧ DnAt P w H3 d kvs ∧ NKey H3 y k ∧ kvs.length < sizeLine ∧ ∀ ob, DnAt P w (upd H3 d ob) d (putN kvs k v) → D.nx σ (upd H3 d ob)
/-- d.setdefault(y, v) -/
def tNDef (P : Program) (w : World) (td : TE) (ta : TA) : TE := fun σ H Q => td σ H fun x H1 => (∃ d kvs0, x = .ref d ∧ DnAt P w H1 d kvs0) ∧ ta σ H1 fun xs H2 => ∃ d kvs k y v, x = .ref d ∧ xs = [y, v] ∧ DnAt P w H2 d kvs ∧ NKey H2 y k ∧ kvs.length < sizeLine ∧
  (∀ v', valN kvs k = some v' → Q v' H2) ∧ (valN kvs k = none → ∀ ob, DnAt P w (upd H2 d ob) d (putN kvs k v) → Q v (upd H2 d ob))
theorem n_room {A : Around} (hu : A.units + 64 < cLine) {P : Program} {w : World} : (nestedKind P w).room A.in1 := by
  show A.units + 1 + 8 < cLine
  omega
section
variable {X : Cx} {o i e value : Expr} {pos pos' tpos : Pos} {td ty tv : TE}
theorem pe_nget (hu : X.A.units + 64 < cLine) (ho : PE X o td) (hi : PE X i ty) (hs : NoSl i) : PE X (.Subscript o i pos) (tNGet X.prog X.w td ty) := by
  refine ⟨fun pins s σ H Q I h => ?_⟩
  refine subD_of PySem.F.slot_dict_getitem.lookup hs (thn (ho.run pins s σ H _ I h) fun u s1 ⟨x, H1, I1, rx, q1⟩ => thn (hi.run pins s1 σ H1 _ I1 q1) fun iv s2 ⟨y, H2, I2, ry, d, kvs, k, v, ex, g, ⟨a, ey, hk, h8⟩, l, q2⟩ => ?_)
  subst ex ey
  obtain rfl : u = Value.ref d := rx
  obtain rfl : iv = Value.ref a := ry
  exact ⟨dn_typeIs I2.hok g, n_getItem (n_room hu) I2 g hk h8 l fun w' s3 I3 rw' => ⟨v, H2, I3, rw', q2⟩⟩
theorem pc_nin (hu : X.A.units + 64 < cLine) (hi : PE X i ty) (ho : PE X o td) : PC X .In i o (tNIn X.prog X.w ty td) := by
  refine ⟨fun pins s σ H Q I h => ?_⟩
  refine thn (hi.run pins s σ H _ I h) fun iv s1 ⟨y, H1, I1, ry, q1⟩ => thn (ho.run pins s1 σ H1 _ I1 q1) fun u s2 ⟨x, H2, I2, rx, d, kvs, k, ex, g, ⟨a, ey, hk, h8⟩, q2⟩ => ?_
  subst ex ey
  obtain rfl : u = Value.ref d := rx
  obtain rfl : iv = Value.ref a := ry
  exact n_in (n_room hu) I2 g hk h8 fun s3 I3 => ⟨.bl (valN kvs k).isSome, H2, I3, rfl, q2⟩
theorem pc_nnotin (hu : X.A.units + 64 < cLine) (hi : PE X i ty) (ho : PE X o td) : PC X .NotIn i o (tNNotIn X.prog X.w ty td) := by
  refine ⟨fun pins s σ H Q I h => ?_⟩
  refine thn (hi.run pins s σ H _ I h) fun iv s1 ⟨y, H1, I1, ry, q1⟩ => thn (ho.run pins s1 σ H1 _ I1 q1) fun u s2 ⟨x, H2, I2, rx, d, kvs, k, ex, g, ⟨a, ey, hk, h8⟩, q2⟩ => ?_
  subst ex ey
  obtain rfl : u = Value.ref d := rx
  obtain rfl : iv = Value.ref a := ry
  exact n_notIn (n_room hu) I2 g hk h8 fun s3 I3 => ⟨.bl (!(valN kvs k).isSome), H2, I3, rfl, q2⟩
theorem ps_nput (hu : X.A.units + 64 < cLine) (ho : PE X o td) (hi : PE X i ty) (hv : PE X value tv) (hs : swapsWith value (some (.Subscript o i pos')) pos.line X.env = pure false) :
    PS X (.Assign [.Subscript o i pos'] value pos) (sNPut X.prog X.w td ty tv) := by
  refine ⟨fun pins s σ H D I h => ?_⟩
  refine wpAny_Assign_Subscript (thn (hv.run pins s σ H _ I h) fun r s1 ⟨v, H1, I1, rv, q1⟩ => thn (ho.run pins s1 σ H1 _ I1 q1) fun u s2 ⟨x, H2, I2, rx, q2⟩ => thn (hi.run pins s2 σ H2 _ I2 q2) fun iv s3 ⟨y, H3, I3, ry, d, kvs, k, ex, g, ⟨a, ey, hk, h8⟩, hz, q3⟩ => ?_) hs
  subst ex ey
  obtain rfl : u = Value.ref d := rx
  obtain rfl : iv = Value.ref a := ry
  exact n_setItem (n_room hu) I3 g hk h8 hz rv fun ob s4 e4 I4 => ⟨σ, upd H3 d ob, I4, q3 ob e4⟩
theorem pe_ndef {es : List Expr} {t : TA} {apos cpos : Pos} (hu : X.A.units + 64 < cLine) (ho : PE X o td) (ha : PA X (e :: es) t)
    (hbase : attributeBase o "setdefault" X.env (eval o X.env) = eval o X.env := by rfl)
    (hfew : ((backTo cpos (starEach (e :: es) X.env)).all (fun x => !x.1) && (backToKw cpos (keywordEach [] X.env)).all (fun x => x.1.isSome)
      && decide ((e :: es).length + ([] : List Keyword).length + (if ([] : List Keyword).isEmpty then 0 else 1) < 30)) = true := by rfl)
    (hline : (apos.endLine == cpos.line) = true := by rfl) (hs : starEach (e :: es) X.env = (false, eval e X.env) :: starEach es X.env := by rfl) (hplain : (backTo cpos (starEach es X.env)).any (·.1) = false := by rfl) :
    PE X (.Call (.Attribute o "setdefault" apos) (e :: es) [] cpos) (tNDef X.prog X.w td t) := by
  refine ⟨fun pins s σ H Q I h => ?_⟩
  refine wpAny_Call_method_late hbase hfew hline rfl (thn (ho.run pins s σ H _ I h) fun v s1 ⟨x, H1, I1, r1, ⟨d, kvs0, ex, g0⟩, q1⟩ => ?_)
  subst ex
  obtain rfl : v = Value.ref d := r1
  have ty := dn_typeIs I1.hok g0
  have nd : ∀ b, Value.ref d = .ref b → ∃ ob, s1.heap.get? b = some ob ∧ ob.dict = none := fun b q => by
    cases q
    obtain ⟨_, _, _, _, _, _, _, _, ob, _, _, h1, h2, _⟩ := dn_rd I1.hok g0
    exact ⟨ob, h1, h2.2.1⟩
  refine ⟨"dict", "dict.setdefault", PySem.F.plainAttrs_dict, PySem.F.slot_dict_setdefault, PySem.F.type_dict_setdefault, ty, nd, ?_⟩
  have hA := ha.run cpos pins s1 σ H1 _ I1 q1
  rw [hs] at hA ⊢
  refine Calls.callWith_builtin (by show (false || (backTo cpos (starEach es X.env)).any (·.1)) = false; rw [hplain] <;> rfl) (Calls.evalArgs_plain ?_)
  refine thn hA fun us s2 ⟨vs, H2, I2, r2, d', kvs, k, y, v, ex, exs, g, ⟨a, ey, hk, h8⟩, hz, q2, q3⟩ => ?_
  cases ex
  subst exs ey
  obtain ⟨u1, u2, rfl, ra, rv⟩ := vals2 r2
  obtain rfl : u1 = Value.ref a := ra
  exact n_setdefault (n_room hu) I2 g hk h8 hz rv (fun v' w' s' hv I' r' => ⟨v', H2, I', r', q2 v' hv⟩) fun hn ob s' e' I' => ⟨v, _, I', rv, q3 hn ob e'⟩
/-- len(d) -/
def rLenN (P : Program) (w : World) : List V → Hp → VK → Prop := fun xs H Q => ∃ d kvs, xs = [.ref d] ∧ DnAt P w H d kvs ∧ Q (.int (kvs.length : Nat)) H
theorem call_lenN : CallR X (.builtin "len") (rLenN X.prog X.w) := by
  intro pins s σ H xs us Q I r h
  obtain ⟨d, kvs, rfl, g, q⟩ := h
  obtain ⟨u, rfl, ru⟩ := vals1 r
  obtain rfl : u = Value.ref d := ru
  obtain ⟨z, hd, _, es, ys, hk, _, rel, dd⟩ := dn_rd I.hok g
  have hl : (pairsH ys).length = kvs.length := by rw [pairsH_length, ← Paired.length rel, ← hk, List.length_map]
  have hm : s.heap.DictKeyed (nestedKind X.prog X.w) d (pairsH ys) := ⟨ys, dd, rfl⟩
  refine PyProof.Rows.call_len_slot (n := (pairsH ys).length) hm.typeIs PySem.F.slot_dict_len (fun Q' hq => len_keyed hd hm hq) (by omega) (by rw [hl]; rw [sizeLine_eq] at z; omega) ?_
  rw [hl]
  exact ⟨.int (kvs.length : Nat), H, I.tok _, ⟨_, rfl⟩, q⟩
end
end My

set_option Elab.async false
set_option linter.all false
set_option maxRecDepth 100000
set_option maxHeartbeats 4000000
/-! ### a call of an own object within a comprehension: a reading without the context -/
namespace My
open PySem PySem.Spec PyProof.Rows L2 StX
def tCallOI (C : Addr) (sp : Sp) (E : XK) (tf : TE) (t : TA) : TE := fun σ H Q => tf σ H fun y H1 => ∃ a, y = V.ref a ∧ t σ H1 fun vs H2 => (∃ dx fs, H2 a = some (.ins C dx fs)) ∧ sp (V.ref a :: vs) H2 Q E
theorem pe_callOI {X : Cx} {CX : CXT} {E : XK} {C g : Addr} {fe e : Expr} {es : List Expr} {pos : Pos} {k : Nat} {sp : Sp} {tf : TE} {t : TA} (hf : PE X fe tf) (c : CallO X.K C g) (F : FnR X.prog X.w X.K X.mg X.base CX k g sp) (hr : Room k X.A) (hx : Passes CX X E) (ha : PA X (e :: es) t)
    (ht : eval (.Call fe (e :: es) [] pos) X.env = (do callWith pos (← eval fe X.env) [] (backTo pos (starEach (e :: es) X.env)) (backToKw pos (keywordEach [] X.env))) := by rfl)
    (he : starEach (e :: es) X.env = (false, eval e X.env) :: starEach es X.env := by rfl) (hpl : (backTo pos (starEach es X.env)).any (·.1) = false := by rfl) : PE X (.Call fe (e :: es) [] pos) (tCallOI C sp E tf t) := by
  refine ⟨fun pins s σ H Q I h => ?_⟩
  refine Call_ (thn (hf.run pins s σ H _ I h) fun u s1 ⟨y, H1, I1, ry, a, ey, q⟩ => ?_) ht
  subst ey
  obtain rfl : u = Value.ref a := ry
  refine callO_with (thn (ha.run pos pins s1 σ H1 _ I1 q) fun us s2 ⟨vs, H2, I2, r, hi, q2⟩ => ?_) he hpl
  obtain ⟨ox, od, J, hd⟩ := insC_at I2 (.inr hi)
  exact ⟨⟨C, ox, od, J, hd⟩, run_callO c F hr hx I2 (.inr hi) r q2⟩
end My

set_option Elab.async false
set_option linter.all false
set_option maxRecDepth 100000
set_option maxHeartbeats 4000000
/-! ### len(set(xs)), xs any list of ints -/
namespace My
open PySem PySem.Spec PyProof.Rows L2
/-- the first ones, in their order -/
def dedI (ns : List Int) : List Int := ns.foldl step_dedup []
theorem rangeGetD {ns : List Int} : (List.range ns.length).map (fun i => ns.getD i 0) = ns := by
  refine List.ext_getElem? fun i => ?_
  rw [List.getElem?_map]
  by_cases h : i < ns.length
  · rw [List.getElem?_range h]
    show some (ns.getD i 0) = _
    rw [List.getD_eq_getElem?_getD, List.getElem?_eq_getElem h]
    rfl
  · rw [List.getElem?_eq_none (by rw [List.length_range]; omega), List.getElem?_eq_none (by omega)]
    rfl
def tLenSetA (K : PySem.W.Frag) (ta : TE) : TE := fun σ H Q => ta σ H fun x H1 => ∃ (l : Addr) (ns : List Int), x = .ref l ∧ SqL K H1 l (ns.map V.int) ∧ ns.length ≤ 4000 ∧ Q (.int ((dedI ns).length : Nat)) H1
theorem pe_lenSetA {X : Cx} {a : Expr} {ta : TE} {p p2 q pos : Pos} (hg : Gl X "len") (hm : X.mg "len" = none) (hg2 : Gl X "set") (hm2 : X.mg "set" = none) (ha : PE X a ta) (hc : X.calm = true := by rfl)
    (na : starEach [a] X.env = (false, eval a X.env) :: starEach [] X.env := by rfl) : PE X (.Call (.Name "len" p) [.Call (.Name "set" p2) [a] [] q] [] pos) (tLenSetA X.K ta) := by
  refine ⟨fun pins s σ H Q I h => ?_⟩
  refine Call_ (ld_blt I hg hm boot_len ?_)
  refine PyProof.Rows.callWith_builtin1 (PyProof.Rows.args_cons ?_ rfl) rfl rfl
  refine Call_ (ld_blt I hg2 hm2 boot_set ?_)
  refine PyProof.Rows.callWith_type1 (PyProof.Rows.args_cons (thn (ha.run pins s σ H _ I h) fun v s1 ⟨x, H1, I1, r1, q1⟩ => PyProof.Rows.args_nil ?_) na) na rfl
  obtain ⟨l, ns, rfl, hq, hl, q1⟩ := q1
  cases r1
  obtain ⟨its, r, pl, hz⟩ := I1.list hq
  have hlen : its.toArray.size = ns.length := by rw [List.size_toArray, ← r.length, List.length_map]
  refine call_set_list (I1.ok.hd hc) pl.isList (by simpa using RZ.intsAre_vals r) (by rw [hlen]; unfold scanBound; omega) fun h' tk hS hk => ?_
  refine PyProof.Rows.args_nil ?_
  have ef : firstMet (fun i => ns.getD i 0) ns.length = dedI ns := by
    unfold firstMet dedI
    rw [rangeGetD]
  rw [hlen, ef] at hS
  have hle : (dedI ns).length ≤ ns.length := by rw [← ef]; exact firstMet_length_le _ _
  obtain ⟨o, es, ep, t, ho, hex, hd, _, _, _, hf, hn⟩ := hS
  have I2 : Inv X pins σ H1 { s1 with heap := h', toks := tk } := I1.kept fun b o e => hk b o (Heap.lt_size e) e
  exact call_len_set ho hex hd hf (by rw [hn] <;> omega) ⟨.int ((dedI ns).length : Nat), H1, I2.tok _, ⟨_, by rw [hn]⟩, q1⟩
end My

set_option Elab.async false
set_option linter.all false
set_option maxRecDepth 100000
set_option maxHeartbeats 4000000
/-! ### {k: v}, one pair, its key a tuple (of tuples) -/
namespace My
open PySem L2
/-- the new dict stands empty while the pair is made -/
def tDispN (P : Program) (w : World) (tk tv : TE) : TE := fun σ H Q => ∀ p, H p = none → tk σ (upd H p (.dK [])) fun x H1 => tv σ H1 fun y H2 => H2 p = some (.dK []) ∧ ∃ k, NKey H2 x k ∧ ∀ ob, DnAt P w (upd H2 p ob) p [(k, y)] → Q (.ref p) (upd H2 p ob)
theorem pe_dispN {X : Cx} {k v : Expr} {pos : Pos} {tk tv : TE} (hu : X.A.units + 64 < cLine) (hk : PE X k tk) (hv : PE X v tv) : PE X (.Dict [some k] [v] pos) (tDispN X.prog X.w tk tv) := by
  refine ⟨fun pins s σ H Q I q => ?_⟩
  have hn := I.hok.fresh (Nat.le_refl s.heap.objs.size)
  have I1 := I.laid (a := s.heap.objs.size) (o := .dK []) (h' := s.heap.push { cls := .type "dict", data := .dict #[] }) (t' := s.toks) (fun _ _ q => Heap.get?_push_of_some _ q) (Nat.le_refl _) (dk_empty s.heap I.big)
  have pp : PPs X pos [some k] [v] [(tk, tv)] := pps_cons hk hv pps_nil
  have len : (pairTrees [some k] [v] X.env pos).length = 1 := pairTrees_length [some k] [v] X.env pos rfl rfl
  rw [arm_eval_Dict, zip_pairTrees [some k] [v] X.env pos rfl rfl, dictDisplay_pairs _ (fun he => by rw [he] at len; cases len) (by omega)]
  refine wpAny_bind (wpAny_standAt (wpAny_bind (wpAny_subDictH (knd := nestedKind X.prog X.w) (by show X.A.units + 8 < cLine; omega) (by omega) (thn (pp.run pins _ σ _ (fun ps H3 => match ps with
    | [(kx, vx)] => H3 s.heap.objs.size = some (.dK []) ∧ ∃ k, NKey H3 kx k ∧ ∀ ob, DnAt X.prog X.w (upd H3 s.heap.objs.size ob) s.heap.objs.size [(k, vx)] → Q (.ref s.heap.objs.size) (upd H3 s.heap.objs.size ob)
    | _ => False) I1 (q _ hn)) fun ws s2 hq => ?_))))
  obtain ⟨ps, H3, I5, rel, qq⟩ := hq
  match ps, rel, qq with
  | [], _, qq => exact qq.elim
  | _ :: _ :: _, _, qq => exact qq.elim
  | [(kx, vx)], rel, qq =>
    obtain ⟨e2, key, ⟨a, rfl, hk, h8⟩, qf⟩ := qq
    cases rel with
    | @cons p q' ps qs hpq t =>
      cases t
      obtain ⟨u1, u2⟩ := q'
      obtain ⟨r1, r2⟩ := hpq
      obtain rfl : u1 = Value.ref a := r1
      obtain ⟨z, hd, mu, xs, ys, exs, nk, rel, dd⟩ := dn_rd (d := s.heap.objs.size) (kvs := []) I5.hok (.inl ⟨e2, rfl⟩)
      have exs : xs = [] := List.map_eq_nil_iff.mp exs
      subst exs
      cases rel
      refine ⟨[(key, a, u2)], ⟨rfl, rfl, n_key I5 hk h8, True.intro⟩, dd, fun h' tk dd' hs => ?_⟩
      obtain ⟨I', e'⟩ := n_stored (xs := []) (t' := tk) I5 mu hd (by rw [sizeLine_eq]; decide) nk .nil hk h8 r2 dd' hs
      exact wpAny_pure ⟨.ref s.heap.objs.size, _, I', rfl, qf _ e'⟩
end My

set_option Elab.async false
set_option linter.all false
/-! int(x), folded (as Tq's rInt1, under a name of its own) -/
namespace My
open PySem L2
def rIv : List V → Hp → VK → Prop := fun xs H Q => (∃ i, xs = [V.int i] ∧ Q (V.int i) H) ∨ ∃ k, xs = [V.bl k] ∧ Q (V.int (if k = true then 1 else 0)) H
theorem rIv_int {i : Int} {H : Hp} {Q : VK} : rIv [V.int i] H Q = Q (V.int i) H := by
  unfold rIv
  exact propext ⟨fun h => by rcases h with ⟨j, e, q⟩ | ⟨k, e, _⟩ <;> cases e; exact q, fun q => .inl ⟨i, rfl, q⟩⟩
theorem rIv_bl {k : Bool} {H : Hp} {Q : VK} : rIv [V.bl k] H Q = Q (V.int (if k = true then 1 else 0)) H := by
  unfold rIv
  exact propext ⟨fun h => by rcases h with ⟨j, e, _⟩ | ⟨k, e, q⟩ <;> cases e; exact q, fun q => .inr ⟨k, rfl, q⟩⟩
end My

set_option linter.all false
/-! ### sorted texts: one list -/
namespace My
open PySem PyProof.Rows
theorem risingS_pw : ∀ (l : List Str) (p : Str), risingS p l = true → (p :: l).Pairwise (fun a b => a.cps.toList ≤ b.cps.toList)
  | [], p, _ => List.pairwise_singleton _ _
  | x :: r, p, h => by
    have h' : (!Spec.ltCps x.cps.toList p.cps.toList && risingS x r) = true := h
    rw [Bool.and_eq_true, ltCps_eq] at h'
    have px : p.cps.toList ≤ x.cps.toList := by
      have := h'.1
      simp only [Bool.not_eq_true', decide_eq_false_iff_not] at this
      exact List.not_lt.mp this
    have ih := risingS_pw r x h'.2
    refine List.pairwise_cons.mpr ⟨fun y hy => ?_, ih⟩
    rcases List.mem_cons.mp hy with rfl | hy
    · exact px
    · exact List.le_trans px (List.rel_of_pairwise_cons ih hy)
theorem sortedS_pw {l : List Str} (h : sortedS l = true) : l.Pairwise (fun a b => a.cps.toList ≤ b.cps.toList) := by
  cases l with
  | nil => exact List.Pairwise.nil
  | cons x r => exact risingS_pw r x h
theorem str_ext {a b : Str} (h : a.cps.toList = b.cps.toList) : a = b := by
  obtain ⟨⟨a⟩⟩ := a
  obtain ⟨⟨b⟩⟩ := b
  have h' : a = b := h
  rw [h']
theorem sorted_uniq {l m : List Str} (hl : sortedS l = true) (hm : sortedS m = true) (p : l.Perm m) : l = m :=
  List.Perm.eq_of_pairwise (le := fun a b : Str => a.cps.toList ≤ b.cps.toList) (fun a b _ _ h1 h2 => str_ext (List.le_antisymm h1 h2)) (sortedS_pw hl) (sortedS_pw hm) p
end My

set_option Elab.async false
set_option linter.all false
set_option maxRecDepth 100000
set_option maxHeartbeats 4000000
/-! ### own errors without fields: C(), raised, caught, asked -/
namespace My
open PySem PySem.Spec PyProof.Rows L2
/-- __init__ of an error without fields: what it promises -/
def spErr0 (C : Addr) : Sp := fun vs H Q _ => ∃ a : Addr, vs = [.ref a] ∧ H a = some (exo a C none) ∧ Q .non H
theorem bare_end {X : Cx} {pins : List (Addr × Obj)} {σ : L2.St} {H1 : Hp} {hp hp2 h2 : Heap} {g1 g2 : Array GenState} {d1 d2 : Drawn} {t1 t2 : Nat} {os1 os2 : OsState} {a C : Addr} (I1 : Inv X pins σ H1 ⟨hp, g1, d1, t1, os1⟩)
    (ha : hp.objs.size ≤ a) (k : ∀ b o, hp.get? b = some o → hp2.get? b = some o) (un : Un (frs X.stack) [] (upd H1 a (exo a C none)) (upd H1 a (exo a C none)) hp2 h2) (hok : HOk X.prog X.w (upd H1 a (exo a C none)) h2) (ho : os2 = os1) (hb : AllBare g2) :
    ∃ (t0 : Addr) (G : Heap), Inv X pins σ H1 ⟨G, g2, d2, t2, os2⟩ ∧ (∀ b o, G.get? b = some o → h2.get? b = some o) ∧ G.get? a = none ∧
      h2.get? a = some ({ cls := .ref C, dict := none, data := .fields #[.ref t0, .none, .none, .none, .bool false, .none] } : Obj) ∧ H1 a = none := by
  have ea : (upd H1 a (exo a C none)) a = some (exo a C none) := upd_same
  obtain ⟨t0, hoe⟩ := exo_at hok ea
  have hn : H1 a = none := I1.hok.fresh ha
  obtain ⟨G, g1', g2'⟩ := restrict h2 fun b => decide (b ≠ a)
  have gk : ∀ b, b ≠ a → G.get? b = h2.get? b := fun b hb => g1' b (decide_eq_true hb)
  have ge : G.get? a = none := g2' a (by simp)
  have nha : ∀ {b : Addr} {o : Obj}, hp.get? b = some o → b ≠ a := fun {b o} z => Nat.ne_of_lt (Nat.lt_of_lt_of_le (Heap.lt_size z) ha)
  have up : ∀ {b : Addr}, b ≠ a → H1 b = none → upd H1 a (exo a C none) b = none := fun {b} hb n => by rw [upd_ne hb]; exact n
  have U : Un (frs X.stack) [] H1 H1 hp G := {
    keep := fun b o z n hf hx => by rw [gk b (nha z)]; exact un.keep b o (k b o z) (up (nha z) n) hf hx
    slot := fun b o z n hf hx => by rw [gk b (nha z)]; exact un.slot b o (k b o z) (up (nha z) n) hf hx
    free := fun b o z n hx => n
    there := fun b o z hx => by rw [gk b (nha z)]; exact un.there b o (k b o z) hx
    tups := fun b xs z => z
    frzs := fun b o v z => z
    tbls := fun b ps z => ⟨#[], by rw [z]; simp⟩ }
  have hok3 : HOk X.prog X.w H1 G := fun b o z => by
    have hba : b ≠ a := ne_of_none z hn
    have z2 : (upd H1 a (exo a C none)) b = some o := by rw [upd_ne hba]; exact z
    have noa : ∀ {c : Addr}, (upd H1 a (exo a C none)) c = some (.own b) → c ≠ a := fun {c} hc => at_ne ea hc exo_own
    exact (hok b o z2).stay (fun c v hc y => by
        have hca : c ≠ a := by
          rcases hc with hc | hc
          · rw [hc]; exact hba
          · exact noa hc
        rw [gk c hca]; exact y)
      (fun c hc => by have z := hc; rw [upd_ne (noa hc)] at z; exact z) (fun c xs hc => by have z := hc; rw [upd_ne (at_ne ea hc exo_tup)] at z; exact z)
  have J : Inv X pins σ H1 ⟨G, g2, d2, t2, os2⟩ := I1.call' (ch := []) ho U hok3 hb (fun b z => absurd z (by simp))
  refine ⟨t0, G, J, fun b o z => ?_, ge, hoe, hn⟩
  by_cases hba : b = a
  · rw [hba, ge] at z; cases z
  · exact (gk b hba).symm.trans z
theorem pmk_oex0 {X : Cx} {CX : CXT} {x : Str} {C fI : Addr} {k : Nat} {fd : FuncData} {ps : List Str} {p pos : Pos} (T : OexC X.K C) (iC : PySem.W.findIn X.K (.ref C) "__init__" = some (some (.ref fI))) (tI : PySem.W.typeIn X.K (.ref fI) = some (.type "function"))
    (F1 : FnOk X.prog X.w X.K X.mg X.base CX k fI fd ps (spErr0 C)) (hr : Room (k + 1) X.A) (hb : Binds X.K fd ps []) (hx : Passes CX X (fun _ _ _ => False)) (hg : Gl X x) (hm : X.mg x = some (.ref C))
    (hdb : (x == ("__debug__" : Str)) = false := by decide) : PMk X (.Call (.Name x p) [] [] pos) (fun _ H Q => Q (.ref C) none H) := by
  intro pins s σ H Q I h
  obtain ⟨nm, q, N, bs, bm, sn, sub, ab, col, dd, k0, k1, k2, k3, k5, hC, hbm⟩ := T.cls
  refine wpAny_Call_Name_kw (ld_glob I hg hm ?_ hdb)
  refine PySem.W.callWith_K0 I.kIn T.kC ?_
  show wpAny _ _ (call (.ref C) []) _ _ _
  obtain ⟨hp, g, dr, tk, os⟩ := s
  have hsz : hp.objs.size ≤ hp.objs.size + 1 := Nat.le_succ _
  have kk : ∀ b o, hp.get? b = some o → ((hp.push (PySem.W.kdv_tup [])).push (PySem.HandSPX.excO C hp.objs.size)).get? b = some o := fun b o e => Heap.get?_push_of_some _ (Heap.get?_push_of_some _ e)
  have there : ((hp.push (PySem.W.kdv_tup [])).push (PySem.HandSPX.excO C hp.objs.size)).get? (hp.objs.size + 1) = some (PySem.HandSPX.excO C hp.objs.size) := by heap_get
  have I2 : Inv X pins σ (upd H (hp.objs.size + 1) (exo (hp.objs.size + 1) C none)) ⟨(hp.push (PySem.W.kdv_tup [])).push (PySem.HandSPX.excO C hp.objs.size), g, dr, tk, os⟩ :=
    I.laid (t' := tk) (a := hp.objs.size + 1) (o := exo (hp.objs.size + 1) C none) (h' := (hp.push (PySem.W.kdv_tup [])).push (PySem.HandSPX.excO C hp.objs.size)) kk hsz (exo_ok there)
  have hq : spErr0 C [V.ref (hp.objs.size + 1)] (upd H (hp.objs.size + 1) (exo (hp.objs.size + 1) C none)) (fun v H2 => v = .non ∧ H2 = upd H (hp.objs.size + 1) (exo (hp.objs.size + 1) C none)) (fun _ _ _ => False) := ⟨_, rfl, upd_same, rfl, rfl⟩
  have r2 : Vals [V.ref (hp.objs.size + 1)] [Value.ref (hp.objs.size + 1)] := .cons rfl .nil
  have hl : ([Value.ref (hp.objs.size + 1)] ++ []).length = ps.length := (F1.len _ _ _ _ hq)
  refine wpAny_call (PySem.HandSPX.call_own F.excBase_ValueError (fun Y => PySem.HandSPX.refsVE_contains Y bm hbm) (I.kIn _ _ hC) (PySem.W.looks_findIn I.kIn iC) (fun self => PySem.W.bind_fn I.kIn self tI) (Nat.zero_le _)
    (codeAny_mono (F1.run _ X.stack _ _ ⟨[Value.ref (hp.objs.size + 1)], []⟩ [Value.ref (hp.objs.size + 1)] _ _ (fun _ _ _ => False) (hr.make C [] []) (I2.env0.make C [] []) (hb _ [Value.ref (hp.objs.size + 1)] I2.kIn hl) r2 hq) fun r s' hq' => ?_))
  cases r with
  | error er => exact hx pins σ _ _ er s' I2 hq'
  | ok fl =>
    cases fl with
    | ret u =>
      obtain ⟨v, H2, os2, bare2, un2, hok2, rv, ev, e2⟩ := hq'
      subst ev
      subst e2
      obtain ⟨h2, g2, d2, t2, os'⟩ := s'
      obtain ⟨t0, G, J, kG, ge, hoe, na⟩ := bare_end (d2 := d2) (t2 := t2) I hsz kk un2 hok2 os2 bare2
      exact ⟨rv, _, _, _, ⟨G, g2, d2, t2, os'⟩, _, .ref C, none, rfl, J, kG, ge, hoe, ⟨rfl, rfl⟩, rfl, rfl, na, rfl, bare2, raises_own T.exC T.tyC, h⟩
    | next => exact False.elim hq'
    | brk => exact False.elim hq'
    | cont => exact False.elim hq'
/-- isinstance(e, c), e the error without a dict that the suite holds -/
def rIsX0 (K : PySem.W.Frag) (a : Addr) (cls : Value) (d : Option Addr) : List V → Hp → VK → Prop := fun xs H Q => ∃ (c : V) (cv : Value) (b : Bool) (D : Addr), xs = [.ref a, c] ∧ (∀ u, RelV c u → u = cv) ∧ cls = .ref D ∧ d = none ∧ ExcC K D ∧ PySem.W.kitOne K (.ref D) cv = some b ∧ Q (.bl b) H
theorem call_isX0 {X : Cx} {a : Addr} {oe : Obj} {cls : Value} {d : Option Addr} {pn : List (Addr × Obj)} (hz : Zc cls d oe) (hf : ∃ vs, oe.data = .fields vs) : CallR (X.suite a ((a, oe) :: pn)) (.builtin "isinstance") (rIsX0 X.K a cls d) := by
  intro pins s σ H xs us Q I r h
  obtain ⟨c, cv, b, D, e, hcv, rfl, rfl, C, k, q⟩ := h
  exact call_isE C hz hf pins s σ H xs us Q I r ⟨c, cv, b, e, hcv, k, q⟩
structure Er0 (P : Program) (w : World) (K : PySem.W.Frag) (mg : Str → Option Value) (base : Heap) (nm : Str) (C f : Addr) (fd : FuncData) (ps : List Str) : Prop where
  k : mg nm = some (.ref C)
  ox : OexC K C
  ic : PySem.W.findIn K (.ref C) "__init__" = some (some (.ref f))
  ti : PySem.W.typeIn K (.ref f) = some (.type "function")
  b : Binds K fd ps []
  G : FnOk P w K mg base (L2.CX P w) 1 f fd ps (spErr0 C)
end My

set_option Elab.async false
set_option linter.all false
set_option maxRecDepth 100000
set_option maxHeartbeats 4000000
/-! ### d.get(k, x), d a dict keyed by tuples -/
namespace My
open PySem PySem.Spec PyProof PyProof.Rows L2
section
variable {X : Cx} {pins : List (Addr × Obj)} {σ : L2.St} {H : Hp} {s : Shared} {d a : Addr} {kvs : List (NestedKey × V)} {k : NestedKey} {v : V} {r : Value} {A : Around} {E : Value → Shared → Prop}
theorem n_getOr {Q : Value → Shared → Prop} (hu : (nestedKind X.prog X.w).room A.in1) (I : Inv X pins σ H s) (e : DnAt X.prog X.w H d kvs) (hk : NkAt H (.ref a) k) (h8 : k.depth ≤ 8) (rv : RelV v r)
    (h1 : ∀ v' w' s', valN kvs k = some v' → Inv X pins σ H s' → RelV v' w' → Q w' s')
    (h2 : valN kvs k = none → ∀ s', Inv X pins σ H s' → Q r s') : wpAny (model X.prog X.w) A (call (.builtin "dict.get") [.ref d, .ref a, r]) Q E s := by
  obtain ⟨z, hd, mu, xs, ys, rfl, nk, rel, dd⟩ := dn_rd I.hok e
  have rk := rel.val k
  refine call_meetsIn F.slot_dict_get dd.typeIs F.entry_dict_get (F.args_dict_get_3 _ _ _) (meetsH_dict_get_default (nestedKind X.prog X.w) d a hd r) ⟨hu, k, ys, n_key I hk h8, dd, ?_⟩
  cases hv : valN (xs.map fun x => (x.1, x.2.2)) k with
  | none =>
    rw [hv] at rk
    cases hw : (atKey ys k).map (·.2) with
    | none => exact h2 hv _ (I.tok _)
    | some u => rw [hw] at rk; exact False.elim rk
  | some v' =>
    rw [hv] at rk
    cases hw : (atKey ys k).map (·.2) with
    | none => rw [hw] at rk; exact False.elim rk
    | some u => rw [hw] at rk; exact h1 v' u _ hv (I.tok _) rk
end
/-- d.get(y, v) -/
def tNGor (P : Program) (w : World) (td : TE) (ta : TA) : TE := fun σ H Q => td σ H fun x H1 => (∃ d kvs0, x = .ref d ∧ DnAt P w H1 d kvs0) ∧ ta σ H1 fun xs H2 => ∃ d kvs k y v, x = .ref d ∧ xs = [y, v] ∧ DnAt P w H2 d kvs ∧ NKey H2 y k ∧
  (∀ v', valN kvs k = some v' → Q v' H2) ∧ (valN kvs k = none → Q v H2)
section
variable {X : Cx} {o i e value : Expr} {pos pos' tpos : Pos} {td ty tv : TE}
theorem pe_ngor {es : List Expr} {t : TA} {apos cpos : Pos} (hu : X.A.units + 64 < cLine) (ho : PE X o td) (ha : PA X (e :: es) t)
    (hbase : attributeBase o "get" X.env (eval o X.env) = eval o X.env := by rfl)
    (hfew : ((backTo cpos (starEach (e :: es) X.env)).all (fun x => !x.1) && (backToKw cpos (keywordEach [] X.env)).all (fun x => x.1.isSome)
      && decide ((e :: es).length + ([] : List Keyword).length + (if ([] : List Keyword).isEmpty then 0 else 1) < 30)) = true := by rfl)
    (hline : (apos.endLine == cpos.line) = true := by rfl) (hs : starEach (e :: es) X.env = (false, eval e X.env) :: starEach es X.env := by rfl) (hplain : (backTo cpos (starEach es X.env)).any (·.1) = false := by rfl) :
    PE X (.Call (.Attribute o "get" apos) (e :: es) [] cpos) (tNGor X.prog X.w td t) := by
  refine ⟨fun pins s σ H Q I h => ?_⟩
  refine wpAny_Call_method_late hbase hfew hline rfl (thn (ho.run pins s σ H _ I h) fun v s1 ⟨x, H1, I1, r1, ⟨d, kvs0, ex, g0⟩, q1⟩ => ?_)
  subst ex
  obtain rfl : v = Value.ref d := r1
  have ty := dn_typeIs I1.hok g0
  have nd : ∀ b, Value.ref d = .ref b → ∃ ob, s1.heap.get? b = some ob ∧ ob.dict = none := fun b q => by
    cases q
    obtain ⟨_, _, _, _, _, _, _, _, ob, _, _, h1, h2, _⟩ := dn_rd I1.hok g0
    exact ⟨ob, h1, h2.2.1⟩
  refine ⟨"dict", "dict.get", PySem.F.plainAttrs_dict, PySem.F.slot_dict_get, PySem.F.type_dict_get, ty, nd, ?_⟩
  have hA := ha.run cpos pins s1 σ H1 _ I1 q1
  rw [hs] at hA ⊢
  refine Calls.callWith_builtin (by show (false || (backTo cpos (starEach es X.env)).any (·.1)) = false; rw [hplain] <;> rfl) (Calls.evalArgs_plain ?_)
  refine thn hA fun us s2 ⟨vs, H2, I2, r2, d', kvs, k, y, v, ex, exs, g, ⟨a, ey, hk, h8⟩, q2, q3⟩ => ?_
  cases ex
  subst exs ey
  obtain ⟨u1, u2, rfl, ra, rv⟩ := vals2 r2
  obtain rfl : u1 = Value.ref a := ra
  exact n_getOr (n_room hu) I2 g hk h8 rv (fun v' w' s' hv I' r' => ⟨v', H2, I', r', q2 v' hv⟩) fun hn s' I' => ⟨v, H2, I', rv, q3 hn⟩
end
end My

set_option Elab.async false
set_option linter.all false
set_option maxRecDepth 100000
set_option maxHeartbeats 4000000
namespace My
open PySem L2
def top (i : Nat) : Stmt := PySem.Challenge.pw_coretower_k16_whole_parting_rows.main.body.getD i (.Pass ⟨0, 0, 0, 0⟩)
abbrev s_is_name : Stmt := top 11
theorem sc_is_name : FnScope ["value", "letter"] ["value"] (defScope s_is_name) := ⟨rfl, rfl, rfl, by decide +kernel, rfl, by decide +kernel, by decide +kernel⟩
abbrev s_is_below : Stmt := top 12
theorem sc_is_below : FnScope ["value", "bound"] ["value", "bound"] (defScope s_is_below) := ⟨rfl, rfl, rfl, by decide +kernel, rfl, by decide +kernel, by decide +kernel⟩
abbrev s_is_number : Stmt := top 13
theorem sc_is_number : FnScope ["value"] ["value"] (defScope s_is_number) := ⟨rfl, rfl, rfl, by decide +kernel, rfl, by decide +kernel, by decide +kernel⟩
abbrev s_is_pair : Stmt := top 20
theorem sc_is_pair : FnScope ["pair", "size", "answer", "state"] ["pair", "size"] (defScope s_is_pair) := ⟨rfl, rfl, rfl, by decide +kernel, rfl, by decide +kernel, by decide +kernel⟩
abbrev s_is_row : Stmt := top 19
theorem sc_is_row : FnScope ["row", "pair"] ["row"] (defScope s_is_row) := ⟨rfl, rfl, rfl, by decide +kernel, rfl, by decide +kernel, by decide +kernel⟩
abbrev s_check_rows : Stmt := top 18
theorem sc_check_rows : FnScope ["rows", "first_row", "name"] ["rows"] (defScope s_check_rows) := ⟨rfl, rfl, rfl, by decide +kernel, rfl, by decide +kernel, by decide +kernel⟩
def lets : Str := "abcdefghijklmnopqrstuvwxyz"
def lowC (c : Nat) : Bool := decide (97 ≤ c) && decide (c ≤ 122)
def nameS (z : Str) : Bool := decide (1 ≤ z.length) && (decide (z.length ≤ 8) && z.cps.toList.all lowC)
def nameD : PyData → Bool
  | .str z => nameS z
  | _ => false
def belowD (m : Int) : PyData → Bool
  | .int i => decide (0 ≤ i) && decide (i < m)
  | _ => false
mutual
def szD : PyData → Bool
  | .str z => decide (z.length ≤ 1000)
  | .tuple ds => szAll ds
  | .list ds => szAll ds
  | _ => true
def szAll : List PyData → Bool
  | [] => true
  | d :: ds => szD d && szAll ds
end
theorem szAll_mem : ∀ {ds : List PyData}, szAll ds = true → ∀ d ∈ ds, szD d = true
  | d :: ds, h, e, he => by
    have h' : (szD d && szAll ds) = true := h
    rw [Bool.and_eq_true] at h'
    rcases List.mem_cons.mp he with rfl | he
    · exact h'.1
    · exact szAll_mem h'.2 e he
structure Bt (mg : Str → Option Value) (tL t1 t2 : Tok) : Prop where
  b_isinstance : mg "isinstance" = none
  b_str : mg "str" = none
  b_int : mg "int" = none
  b_bool : mg "bool" = none
  b_tuple : mg "tuple" = none
  b_list : mg "list" = none
  b_len : mg "len" = none
  b_all : mg "all" = none
  c_LETTERS : mg "LETTERS" = some (.str lets tL)
  c_MOST_STATES : mg "MOST_STATES" = some (.int 100 t1)
  c_MOST_OPERATIONS : mg "MOST_OPERATIONS" = some (.int 6 t2)
/-- the promise of a test of data -/
def spD (pre : PyData → Prop) (f : PyData → Bool) : Sp := fun vs H Q _ => ∃ (v : V) (d : PyData), vs = [v] ∧ Dq H v d ∧ szD d = true ∧ pre d ∧ ∀ H', Kp [] H H' → Q (.bl (f d)) H'
def LowIn (z : Str) (D : Addr) (H : Hp) (i : Nat) (H' : Hp) : Prop := H' D = some (.lst ((z.cps.toList.take i).map fun c => V.bl (lowC c))) ∧ Kp [] H H'
theorem lets_mem (c : Nat) : decide (c ∈ lets.cps.toList) = lowC c := by
  have e : lets.cps.toList = (List.range 26).map (97 + ·) := by decide +kernel
  rw [e, Bool.eq_iff_iff, decide_eq_true_eq]
  unfold lowC
  rw [Bool.and_eq_true, decide_eq_true_eq, decide_eq_true_eq, List.mem_map]
  constructor
  · rintro ⟨i, hi, rfl⟩
    have := List.mem_range.mp hi
    omega
  · rintro ⟨h1, h2⟩
    exact ⟨c - 97, List.mem_range.mpr (by omega), by omega⟩
theorem all_take {α : Type} {f : α → Bool} {l : List α} : ((l.map fun c => f c).all id) = l.all f := by
  rw [List.all_map]; rfl
theorem take_snoc {α : Type} {l : List α} {i : Nat} {x : α} (h : l[i]? = some x) : l.take (i + 1) = l.take i ++ [x] := by
  rw [List.take_add_one, h]; rfl
section
variable {P : Program} {w : World} {K : PySem.W.Frag} {mg : Str → Option Value} {base : Heap} {tL t1 t2 : Tok}
theorem ok_is_name {f : Addr} {fd : FuncData} (D : Df K mg "is_name" s_is_name ["value"] f fd) (T : Bt mg tL t1 t2) : FnOk P w K mg base CX0 1 f fd ["value"] (spD (fun _ => True) nameD) := by
  refine D.F.ok sc_is_name (fun vs H Q E h => ?_) (fun cdv A outer s H vs Q E hr h => ?_)
  · obtain ⟨a, m, rfl, _⟩ := h
    rfl
  · obtain ⟨v, d, rfl, hd, sz, _, q⟩ := h
    have hu := hu_of hr
    refine ⟨_, (pss_cons (ps_if (pt_not (pt_val (pe_callB (id := "isinstance") (r := rIsi K) call_isi (by rfl) T.b_isinstance (by decide +kernel) (pa_cons (pv 0) (pa_cons (pe_bltn (v := .ty "str") (by rfl) T.b_str (by decide +kernel) rfl) pa_nil))))) (pss_one (ps_ret pe_bl)) pss_nil)
      (pss_one (ps_ret (pe_and (pe_chain op_le op_le pe_int (pe_callB (id := "len") call_len_str (by rfl) T.b_len PySem.boot_len (pa_cons (pv 0) pa_nil)) pe_int) (pe_one (pe_callB (id := "all") (r := rAll K) (cr_all rfl) (by rfl) T.b_all (by decide +kernel) (pa_cons (pe_lc (own := [("letter", 1)]) (g := (gName 1)) (tt := tYes) rfl sc_is_name.nd (pi_str (pv 0)) (blkOk_by (N := ["value", "letter"]) (sc := defScope s_is_name) (by decide +kernel)) (fun _ _ _ _ _ => (pg_name (i := 1) sc_is_name.nd rfl (Or.inl rfl))) (fun _ _ _ _ _ => pts_nil) (fun _ _ _ _ _ => (pe_cmpR op_in_sign (pv 1) (pe_glob (v := .str lets) rfl T.c_LETTERS ⟨_, rfl⟩) (by rfl)))) pa_nil))))))), ?_⟩
    try simp (maxSteps := 1000000) only [tSeq, tIfS, tTest, tOp, tUn, tCB, tCons, tNil, tVar, tC, rI0, rI, rU, rEq, rNe, tRet, tRetN, tAsg, gName, gSub, tBM, tBM0, tNext, tB, tNot, tAnd, tOr, tIf, tCall, tDrop, tBreak, tCont, L2.start, tDGet, sDPut, tTup, tLst, tDNewK, tRevL, rCat, rAppend, rPop, rSetL, tAndV, tOrV, tNotV, tSl, tPart, tNoPart, tM1, gTup, gCons, gNil, cxK, cxnK, List.map_cons, List.map_nil, List.length_cons, List.length_nil, List.replicate, List.cons_append, List.nil_append, List.append_nil, List.set_cons_zero, List.set_cons_succ, List.getElem?_cons_zero, List.getElem?_cons_succ, Option.some.injEq, V.ref.injEq, V.int.injEq, V.str.injEq, V.bl.injEq, V.ty.injEq, exists_eq_left', exists_eq_left, exists_and_left, List.cons.injEq, and_true, true_and, sc_ii, sc_ss, sc_bb, sc_ni, sc_in, sc_is, sc_si, sc_nn, decide_true, decide_false, reduceCtorEq, Bool.false_eq_true, if_true, if_false, ite_true, ite_false, exists_const, eq_self, false_and, and_false, or_false, false_or, exists_false, Evl.rLenS, rSum, wipe, tYes, exists_eq, exists_eq', rIxL, rIxT, rIxS, exists_and_right, gt_iff_lt, not_true_eq_false, not_false_eq_true, Bool.not_true, Bool.not_false, decide_eq_true_eq, Nat.reduceSub, Nat.reduceAdd, List.append_assoc, tChain, tDIn, tDNotIn, sDDel, tAug, ipI]
    refine isi_Dstr hd ?_
    try simp (maxSteps := 1000000) only [tSeq, tIfS, tTest, tOp, tUn, tCB, tCons, tNil, tVar, tC, rI0, rI, rU, rEq, rNe, tRet, tRetN, tAsg, gName, gSub, tBM, tBM0, tNext, tB, tNot, tAnd, tOr, tIf, tCall, tDrop, tBreak, tCont, L2.start, tDGet, sDPut, tTup, tLst, tDNewK, tRevL, rCat, rAppend, rPop, rSetL, tAndV, tOrV, tNotV, tSl, tPart, tNoPart, tM1, gTup, gCons, gNil, cxK, cxnK, List.map_cons, List.map_nil, List.length_cons, List.length_nil, List.replicate, List.cons_append, List.nil_append, List.append_nil, List.set_cons_zero, List.set_cons_succ, List.getElem?_cons_zero, List.getElem?_cons_succ, Option.some.injEq, V.ref.injEq, V.int.injEq, V.str.injEq, V.bl.injEq, V.ty.injEq, exists_eq_left', exists_eq_left, exists_and_left, List.cons.injEq, and_true, true_and, sc_ii, sc_ss, sc_bb, sc_ni, sc_in, sc_is, sc_si, sc_nn, decide_true, decide_false, reduceCtorEq, Bool.false_eq_true, if_true, if_false, ite_true, ite_false, exists_const, eq_self, false_and, and_false, or_false, false_or, exists_false, Evl.rLenS, rSum, wipe, tYes, exists_eq, exists_eq', rIxL, rIxT, rIxS, exists_and_right, gt_iff_lt, not_true_eq_false, not_false_eq_true, Bool.not_true, Bool.not_false, decide_eq_true_eq, Nat.reduceSub, Nat.reduceAdd, List.append_assoc, tChain, tDIn, tDNotIn, sDDel, tAug, ipI]
    cases hd with
    | str z =>
      try simp (maxSteps := 1000000) only [tSeq, tIfS, tTest, tOp, tUn, tCB, tCons, tNil, tVar, tC, rI0, rI, rU, rEq, rNe, tRet, tRetN, tAsg, gName, gSub, tBM, tBM0, tNext, tB, tNot, tAnd, tOr, tIf, tCall, tDrop, tBreak, tCont, L2.start, tDGet, sDPut, tTup, tLst, tDNewK, tRevL, rCat, rAppend, rPop, rSetL, tAndV, tOrV, tNotV, tSl, tPart, tNoPart, tM1, gTup, gCons, gNil, cxK, cxnK, List.map_cons, List.map_nil, List.length_cons, List.length_nil, List.replicate, List.cons_append, List.nil_append, List.append_nil, List.set_cons_zero, List.set_cons_succ, List.getElem?_cons_zero, List.getElem?_cons_succ, Option.some.injEq, V.ref.injEq, V.int.injEq, V.str.injEq, V.bl.injEq, V.ty.injEq, exists_eq_left', exists_eq_left, exists_and_left, List.cons.injEq, and_true, true_and, sc_ii, sc_ss, sc_bb, sc_ni, sc_in, sc_is, sc_si, sc_nn, decide_true, decide_false, reduceCtorEq, Bool.false_eq_true, if_true, if_false, ite_true, ite_false, exists_const, eq_self, false_and, and_false, or_false, false_or, exists_false, Evl.rLenS, rSum, wipe, tYes, exists_eq, exists_eq', rIxL, rIxT, rIxS, exists_and_right, gt_iff_lt, not_true_eq_false, not_false_eq_true, Bool.not_true, Bool.not_false, decide_eq_true_eq, Nat.reduceSub, Nat.reduceAdd, List.append_assoc, tChain, tDIn, tDNotIn, sDDel, tAug, ipI, isStrD]
      have zs : z.cps.toList.length = z.length := Array.length_toList
      have zl : z.length ≤ 1000 := of_decide_eq_true sz
      have q' : ∀ H', Kp [] H H' → Q (.bl (nameS z)) H' := q
      unfold nameS at q'
      refine ⟨small (by omega), ?_⟩
      by_cases h1 : 1 ≤ z.length
      · by_cases h8 : z.length ≤ 8
        · have e1 : (1 : Int) ≤ (z.length : Nat) := by omega
          have e8 : ((z.length : Nat) : Int) ≤ 8 := by omega
          rw [decide_eq_true h1, decide_eq_true h8] at q'
          rw [if_pos e1, if_pos e8]
          refine ⟨.str z, rfl, z, rfl, fun o no => lc_it walk_str (LowIn z o H) ⟨upd_same, Kp.new no⟩ (fun _ _ _ _ => True.intro) ?_ ?_⟩
          · rintro i x H1 H2 hi ⟨ho, kp⟩ ⟨rfl, c, hc, rfl⟩
            try simp (maxSteps := 1000000) only [tSeq, tIfS, tTest, tOp, tUn, tCB, tCons, tNil, tVar, tC, rI0, rI, rU, rEq, rNe, tRet, tRetN, tAsg, gName, gSub, tBM, tBM0, tNext, tB, tNot, tAnd, tOr, tIf, tCall, tDrop, tBreak, tCont, L2.start, tDGet, sDPut, tTup, tLst, tDNewK, tRevL, rCat, rAppend, rPop, rSetL, tAndV, tOrV, tNotV, tSl, tPart, tNoPart, tM1, gTup, gCons, gNil, cxK, cxnK, List.map_cons, List.map_nil, List.length_cons, List.length_nil, List.replicate, List.cons_append, List.nil_append, List.append_nil, List.set_cons_zero, List.set_cons_succ, List.getElem?_cons_zero, List.getElem?_cons_succ, Option.some.injEq, V.ref.injEq, V.int.injEq, V.str.injEq, V.bl.injEq, V.ty.injEq, exists_eq_left', exists_eq_left, exists_and_left, List.cons.injEq, and_true, true_and, sc_ii, sc_ss, sc_bb, sc_ni, sc_in, sc_is, sc_si, sc_nn, decide_true, decide_false, reduceCtorEq, Bool.false_eq_true, if_true, if_false, ite_true, ite_false, exists_const, eq_self, false_and, and_false, or_false, false_or, exists_false, Evl.rLenS, rSum, wipe, tYes, exists_eq, exists_eq', rIxL, rIxT, rIxS, exists_and_right, gt_iff_lt, not_true_eq_false, not_false_eq_true, Bool.not_true, Bool.not_false, decide_eq_true_eq, Nat.reduceSub, Nat.reduceAdd, List.append_assoc, tChain, tDIn, tDNotIn, sDDel, tAug, ipI]
            refine ⟨c, rfl, _, ho, ?_, ?_, kp.wr no⟩
            · rw [List.length_map, List.length_take, zs]; exact smallL (by omega)
            · rw [upd_same, lets_mem, take_snoc (x := c) (by rw [← hc]; simp), List.map_append]; rfl
          · rintro H1 ⟨ho, kp⟩
            have q2 := q' H1 kp
            rw [← all_take] at q2
            refine ⟨_, z.cps.toList.map lowC, rfl, sq_l (ho.trans ?_), ?_⟩
            · rw [List.take_of_length_le (by simp), List.map_map]; rfl
            · simpa using q2
        · have e1 : (1 : Int) ≤ (z.length : Nat) := by omega
          have e8 : ¬ ((z.length : Nat) : Int) ≤ 8 := by omega
          rw [decide_eq_true h1, decide_eq_false h8] at q'
          rw [if_pos e1, if_neg e8]
          exact q' _ (Kp.refl _ _)
      · have e1 : ¬ (1 : Int) ≤ (z.length : Nat) := by omega
        rw [decide_eq_false h1] at q'
        rw [if_neg e1]
        exact q' _ (Kp.refl _ _)
    | _ => exact q H (Kp.refl _ _)

def spBelow : Sp := fun vs H Q _ => ∃ (v : V) (d : PyData) (m : Int), vs = [v, .int m] ∧ Dq H v d ∧ Q (.bl (belowD m d)) H
theorem ok_is_below {f : Addr} {fd : FuncData} (D : Df K mg "is_below" s_is_below ["value", "bound"] f fd) (T : Bt mg tL t1 t2) : FnOk P w K mg base CX0 1 f fd ["value", "bound"] spBelow := by
  refine D.F.ok sc_is_below (fun vs H Q E h => ?_) (fun cdv A outer s H vs Q E hr h => ?_)
  · obtain ⟨v, d, m, rfl, _⟩ := h
    rfl
  · obtain ⟨v, d, m, rfl, hd, q⟩ := h
    refine ⟨_, (pss_one (ps_ret (pe_and (pe_callB (id := "isinstance") (r := rIsi K) call_isi (by rfl) T.b_isinstance (by decide +kernel) (pa_cons (pv 0) (pa_cons (pe_bltn (v := .ty "int") (by rfl) T.b_int (by decide +kernel) rfl) pa_nil))) (pe_and (pe_not (pe_callB (id := "isinstance") (r := rIsi K) call_isi (by rfl) T.b_isinstance (by decide +kernel) (pa_cons (pv 0) (pa_cons (pe_bltn (v := .ty "bool") (by rfl) T.b_bool (by decide +kernel) rfl) pa_nil)))) (pe_one (pe_chain op_le op_lt pe_int (pv 0) (pv 1))))))), ?_⟩
    try simp (maxSteps := 1000000) only [tSeq, tIfS, tTest, tOp, tUn, tCB, tCons, tNil, tVar, tC, rI0, rI, rU, rEq, rNe, tRet, tRetN, tAsg, gName, gSub, tBM, tBM0, tNext, tB, tNot, tAnd, tOr, tIf, tCall, tDrop, tBreak, tCont, L2.start, tDGet, sDPut, tTup, tLst, tDNewK, tRevL, rCat, rAppend, rPop, rSetL, tAndV, tOrV, tNotV, tSl, tPart, tNoPart, tM1, gTup, gCons, gNil, cxK, cxnK, List.map_cons, List.map_nil, List.length_cons, List.length_nil, List.replicate, List.cons_append, List.nil_append, List.append_nil, List.set_cons_zero, List.set_cons_succ, List.getElem?_cons_zero, List.getElem?_cons_succ, Option.some.injEq, V.ref.injEq, V.int.injEq, V.str.injEq, V.bl.injEq, V.ty.injEq, exists_eq_left', exists_eq_left, exists_and_left, List.cons.injEq, and_true, true_and, sc_ii, sc_ss, sc_bb, sc_ni, sc_in, sc_is, sc_si, sc_nn, decide_true, decide_false, reduceCtorEq, Bool.false_eq_true, if_true, if_false, ite_true, ite_false, exists_const, eq_self, false_and, and_false, or_false, false_or, exists_false, Evl.rLenS, rSum, wipe, tYes, exists_eq, exists_eq', rIxL, rIxT, rIxS, exists_and_right, gt_iff_lt, not_true_eq_false, not_false_eq_true, Bool.not_true, Bool.not_false, decide_eq_true_eq, Nat.reduceSub, Nat.reduceAdd, List.append_assoc, tChain, tDIn, tDNotIn, sDDel, tAug, ipI]
    refine isi_Dint hd ?_
    cases hd with
    | int i =>
      try simp (maxSteps := 1000000) only [tSeq, tIfS, tTest, tOp, tUn, tCB, tCons, tNil, tVar, tC, rI0, rI, rU, rEq, rNe, tRet, tRetN, tAsg, gName, gSub, tBM, tBM0, tNext, tB, tNot, tAnd, tOr, tIf, tCall, tDrop, tBreak, tCont, L2.start, tDGet, sDPut, tTup, tLst, tDNewK, tRevL, rCat, rAppend, rPop, rSetL, tAndV, tOrV, tNotV, tSl, tPart, tNoPart, tM1, gTup, gCons, gNil, cxK, cxnK, List.map_cons, List.map_nil, List.length_cons, List.length_nil, List.replicate, List.cons_append, List.nil_append, List.append_nil, List.set_cons_zero, List.set_cons_succ, List.getElem?_cons_zero, List.getElem?_cons_succ, Option.some.injEq, V.ref.injEq, V.int.injEq, V.str.injEq, V.bl.injEq, V.ty.injEq, exists_eq_left', exists_eq_left, exists_and_left, List.cons.injEq, and_true, true_and, sc_ii, sc_ss, sc_bb, sc_ni, sc_in, sc_is, sc_si, sc_nn, decide_true, decide_false, reduceCtorEq, Bool.false_eq_true, if_true, if_false, ite_true, ite_false, exists_const, eq_self, false_and, and_false, or_false, false_or, exists_false, Evl.rLenS, rSum, wipe, tYes, exists_eq, exists_eq', rIxL, rIxT, rIxS, exists_and_right, gt_iff_lt, not_true_eq_false, not_false_eq_true, Bool.not_true, Bool.not_false, decide_eq_true_eq, Nat.reduceSub, Nat.reduceAdd, List.append_assoc, tChain, tDIn, tDNotIn, sDDel, tAug, ipI, isIntD]
      refine isi_int_bool ?_
      try simp (maxSteps := 1000000) only [tSeq, tIfS, tTest, tOp, tUn, tCB, tCons, tNil, tVar, tC, rI0, rI, rU, rEq, rNe, tRet, tRetN, tAsg, gName, gSub, tBM, tBM0, tNext, tB, tNot, tAnd, tOr, tIf, tCall, tDrop, tBreak, tCont, L2.start, tDGet, sDPut, tTup, tLst, tDNewK, tRevL, rCat, rAppend, rPop, rSetL, tAndV, tOrV, tNotV, tSl, tPart, tNoPart, tM1, gTup, gCons, gNil, cxK, cxnK, List.map_cons, List.map_nil, List.length_cons, List.length_nil, List.replicate, List.cons_append, List.nil_append, List.append_nil, List.set_cons_zero, List.set_cons_succ, List.getElem?_cons_zero, List.getElem?_cons_succ, Option.some.injEq, V.ref.injEq, V.int.injEq, V.str.injEq, V.bl.injEq, V.ty.injEq, exists_eq_left', exists_eq_left, exists_and_left, List.cons.injEq, and_true, true_and, sc_ii, sc_ss, sc_bb, sc_ni, sc_in, sc_is, sc_si, sc_nn, decide_true, decide_false, reduceCtorEq, Bool.false_eq_true, if_true, if_false, ite_true, ite_false, exists_const, eq_self, false_and, and_false, or_false, false_or, exists_false, Evl.rLenS, rSum, wipe, tYes, exists_eq, exists_eq', rIxL, rIxT, rIxS, exists_and_right, gt_iff_lt, not_true_eq_false, not_false_eq_true, Bool.not_true, Bool.not_false, decide_eq_true_eq, Nat.reduceSub, Nat.reduceAdd, List.append_assoc, tChain, tDIn, tDNotIn, sDDel, tAug, ipI]
      by_cases h0 : 0 ≤ i
      · simp only [h0, decide_true, if_true]
        have q' : Q (.bl (decide (0 ≤ i) && decide (i < m))) H := q
        rw [decide_eq_true h0] at q'
        exact q'
      · simp only [h0, decide_false, Bool.false_eq_true, if_false]
        have q' : Q (.bl (decide (0 ≤ i) && decide (i < m))) H := q
        rw [decide_eq_false h0] at q'
        exact q'
    | bl b =>
      try simp (maxSteps := 1000000) only [tSeq, tIfS, tTest, tOp, tUn, tCB, tCons, tNil, tVar, tC, rI0, rI, rU, rEq, rNe, tRet, tRetN, tAsg, gName, gSub, tBM, tBM0, tNext, tB, tNot, tAnd, tOr, tIf, tCall, tDrop, tBreak, tCont, L2.start, tDGet, sDPut, tTup, tLst, tDNewK, tRevL, rCat, rAppend, rPop, rSetL, tAndV, tOrV, tNotV, tSl, tPart, tNoPart, tM1, gTup, gCons, gNil, cxK, cxnK, List.map_cons, List.map_nil, List.length_cons, List.length_nil, List.replicate, List.cons_append, List.nil_append, List.append_nil, List.set_cons_zero, List.set_cons_succ, List.getElem?_cons_zero, List.getElem?_cons_succ, Option.some.injEq, V.ref.injEq, V.int.injEq, V.str.injEq, V.bl.injEq, V.ty.injEq, exists_eq_left', exists_eq_left, exists_and_left, List.cons.injEq, and_true, true_and, sc_ii, sc_ss, sc_bb, sc_ni, sc_in, sc_is, sc_si, sc_nn, decide_true, decide_false, reduceCtorEq, Bool.false_eq_true, if_true, if_false, ite_true, ite_false, exists_const, eq_self, false_and, and_false, or_false, false_or, exists_false, Evl.rLenS, rSum, wipe, tYes, exists_eq, exists_eq', rIxL, rIxT, rIxS, exists_and_right, gt_iff_lt, not_true_eq_false, not_false_eq_true, Bool.not_true, Bool.not_false, decide_eq_true_eq, Nat.reduceSub, Nat.reduceAdd, List.append_assoc, tChain, tDIn, tDNotIn, sDDel, tAug, ipI, isIntD]
      refine isi_bl_bool ?_
      try simp (maxSteps := 1000000) only [tSeq, tIfS, tTest, tOp, tUn, tCB, tCons, tNil, tVar, tC, rI0, rI, rU, rEq, rNe, tRet, tRetN, tAsg, gName, gSub, tBM, tBM0, tNext, tB, tNot, tAnd, tOr, tIf, tCall, tDrop, tBreak, tCont, L2.start, tDGet, sDPut, tTup, tLst, tDNewK, tRevL, rCat, rAppend, rPop, rSetL, tAndV, tOrV, tNotV, tSl, tPart, tNoPart, tM1, gTup, gCons, gNil, cxK, cxnK, List.map_cons, List.map_nil, List.length_cons, List.length_nil, List.replicate, List.cons_append, List.nil_append, List.append_nil, List.set_cons_zero, List.set_cons_succ, List.getElem?_cons_zero, List.getElem?_cons_succ, Option.some.injEq, V.ref.injEq, V.int.injEq, V.str.injEq, V.bl.injEq, V.ty.injEq, exists_eq_left', exists_eq_left, exists_and_left, List.cons.injEq, and_true, true_and, sc_ii, sc_ss, sc_bb, sc_ni, sc_in, sc_is, sc_si, sc_nn, decide_true, decide_false, reduceCtorEq, Bool.false_eq_true, if_true, if_false, ite_true, ite_false, exists_const, eq_self, false_and, and_false, or_false, false_or, exists_false, Evl.rLenS, rSum, wipe, tYes, exists_eq, exists_eq', rIxL, rIxT, rIxS, exists_and_right, gt_iff_lt, not_true_eq_false, not_false_eq_true, Bool.not_true, Bool.not_false, decide_eq_true_eq, Nat.reduceSub, Nat.reduceAdd, List.append_assoc, tChain, tDIn, tDNotIn, sDDel, tAug, ipI]
      exact q
    | _ =>
      try simp (maxSteps := 1000000) only [tSeq, tIfS, tTest, tOp, tUn, tCB, tCons, tNil, tVar, tC, rI0, rI, rU, rEq, rNe, tRet, tRetN, tAsg, gName, gSub, tBM, tBM0, tNext, tB, tNot, tAnd, tOr, tIf, tCall, tDrop, tBreak, tCont, L2.start, tDGet, sDPut, tTup, tLst, tDNewK, tRevL, rCat, rAppend, rPop, rSetL, tAndV, tOrV, tNotV, tSl, tPart, tNoPart, tM1, gTup, gCons, gNil, cxK, cxnK, List.map_cons, List.map_nil, List.length_cons, List.length_nil, List.replicate, List.cons_append, List.nil_append, List.append_nil, List.set_cons_zero, List.set_cons_succ, List.getElem?_cons_zero, List.getElem?_cons_succ, Option.some.injEq, V.ref.injEq, V.int.injEq, V.str.injEq, V.bl.injEq, V.ty.injEq, exists_eq_left', exists_eq_left, exists_and_left, List.cons.injEq, and_true, true_and, sc_ii, sc_ss, sc_bb, sc_ni, sc_in, sc_is, sc_si, sc_nn, decide_true, decide_false, reduceCtorEq, Bool.false_eq_true, if_true, if_false, ite_true, ite_false, exists_const, eq_self, false_and, and_false, or_false, false_or, exists_false, Evl.rLenS, rSum, wipe, tYes, exists_eq, exists_eq', rIxL, rIxT, rIxS, exists_and_right, gt_iff_lt, not_true_eq_false, not_false_eq_true, Bool.not_true, Bool.not_false, decide_eq_true_eq, Nat.reduceSub, Nat.reduceAdd, List.append_assoc, tChain, tDIn, tDNotIn, sDDel, tAug, ipI, isIntD]
      exact q
theorem ok_is_number {f : Addr} {fd : FuncData} (D : Df K mg "is_number" s_is_number ["value"] f fd) (T : Bt mg tL t1 t2) {fb : Addr} {fdb : FuncData} (D_is_below : Df K mg "is_below" s_is_below ["value", "bound"] fb fdb) (G_is_below : FnOk P w K mg base CX0 1 fb fdb ["value", "bound"] spBelow) :
    FnOk P w K mg base CX0 2 f fd ["value"] (spD (fun _ => True) (belowD 10)) := by
  refine D.F.ok sc_is_number (fun vs H Q E h => ?_) (fun cdv A outer s H vs Q E hr h => ?_)
  · obtain ⟨v, d, rfl, _⟩ := h
    rfl
  · obtain ⟨v, d, rfl, hd, _, _, q⟩ := h
    refine ⟨_, (pss_one (ps_ret (pe_call G_is_below (hr.mono (by decide)) rfl D_is_below.g D_is_below.F.kp D_is_below.b .nil pass0 (pa_cons (pv 0) (pa_cons pe_int pa_nil))))), ?_⟩
    try simp (maxSteps := 1000000) only [tSeq, tIfS, tTest, tOp, tUn, tCB, tCons, tNil, tVar, tC, rI0, rI, rU, rEq, rNe, tRet, tRetN, tAsg, gName, gSub, tBM, tBM0, tNext, tB, tNot, tAnd, tOr, tIf, tCall, tDrop, tBreak, tCont, L2.start, tDGet, sDPut, tTup, tLst, tDNewK, tRevL, rCat, rAppend, rPop, rSetL, tAndV, tOrV, tNotV, tSl, tPart, tNoPart, tM1, gTup, gCons, gNil, cxK, cxnK, List.map_cons, List.map_nil, List.length_cons, List.length_nil, List.replicate, List.cons_append, List.nil_append, List.append_nil, List.set_cons_zero, List.set_cons_succ, List.getElem?_cons_zero, List.getElem?_cons_succ, Option.some.injEq, V.ref.injEq, V.int.injEq, V.str.injEq, V.bl.injEq, V.ty.injEq, exists_eq_left', exists_eq_left, exists_and_left, List.cons.injEq, and_true, true_and, sc_ii, sc_ss, sc_bb, sc_ni, sc_in, sc_is, sc_si, sc_nn, decide_true, decide_false, reduceCtorEq, Bool.false_eq_true, if_true, if_false, ite_true, ite_false, exists_const, eq_self, false_and, and_false, or_false, false_or, exists_false, Evl.rLenS, rSum, wipe, tYes, exists_eq, exists_eq', rIxL, rIxT, rIxS, exists_and_right, gt_iff_lt, not_true_eq_false, not_false_eq_true, Bool.not_true, Bool.not_false, decide_eq_true_eq, Nat.reduceSub, Nat.reduceAdd, List.append_assoc, tChain, tDIn, tDNotIn, sDDel, tAug, ipI]
    exact ⟨v, d, 10, rfl, hd, q H (Kp.refl _ _)⟩
/-- ahead of the i-th item of a row of data: what was told of those before stands in the new list -/
def AllIn {α : Type} (g : α → Bool) (ds : List α) (D : Addr) (H : Hp) (i : Nat) (H' : Hp) : Prop := H' D = some (.lst ((ds.take i).map fun d => V.bl (g d))) ∧ Kp [] H H'
theorem allIn_step {α : Type} {g : α → Bool} {ds : List α} {D : Addr} {H H1 H2 : Hp} {i : Nat} {d : α} (hn : H D = none) (h : AllIn g ds D H i H1) (k : Kp [] H1 H2) (e : ds[i]? = some d) (hl : ds.length ≤ 1000) :
    ∃ acc, H2 D = some (.lst acc) ∧ acc.length < sizeLine ∧ AllIn g ds D H (i + 1) (upd H2 D (.lst (acc ++ [V.bl (g d)]))) := by
  refine ⟨_, k _ _ not0 h.1, ?_, ?_, (h.2.trans k).wr hn⟩
  · rw [List.length_map, List.length_take]; exact smallL (by omega)
  · rw [upd_same, take_snoc e, List.map_append]; rfl
theorem allIn_end {α : Type} {K : PySem.W.Frag} {g : α → Bool} {ds : List α} {D : Addr} {H H1 : Hp} {Q : VK} (h : AllIn g ds D H ds.length H1) (q : Q (.bl (ds.all g)) H1) : rAll K [.ref D] H1 Q := by
  refine ⟨D, ds.map g, rfl, sq_l (h.1.trans ?_), ?_⟩
  · rw [List.take_length, List.map_map]; rfl
  · rw [all_take]; exact q
/-! ### pairs and rows of a table -/
def pairD (m : Int) : PyData → Bool
  | .tuple [a, s] => belowD 10 a && belowD m s
  | _ => false
def rowD : PyData → Bool
  | .list ds => decide (1 ≤ ds.length) && (decide (ds.length ≤ 100) && ds.all (pairD ds.length))
  | _ => false
def spPairD : Sp := fun vs H Q _ => ∃ (v : V) (d : PyData) (m : Int), vs = [v, .int m] ∧ Dq H v d ∧ szD d = true ∧ ∀ H', Kp [] H H' → Q (.bl (pairD m d)) H'
theorem ok_is_pair {f : Addr} {fd : FuncData} (D : Df K mg "is_pair" s_is_pair ["pair", "size"] f fd) (T : Bt mg tL t1 t2) {fb : Addr} {fdb : FuncData} (D_is_number : Df K mg "is_number" s_is_number ["value"] fb fdb) (G_is_number : FnOk P w K mg base CX0 2 fb fdb ["value"] (spD (fun _ => True) (belowD 10)))
    {fl : Addr} {fdl : FuncData} (D_is_below : Df K mg "is_below" s_is_below ["value", "bound"] fl fdl) (G_is_below : FnOk P w K mg base CX0 1 fl fdl ["value", "bound"] spBelow) : FnOk P w K mg base CX0 3 f fd ["pair", "size"] spPairD := by
  refine D.F.ok sc_is_pair (fun vs H Q E h => ?_) (fun cdv A outer s H vs Q E hr h => ?_)
  · obtain ⟨v, d, m, rfl, _⟩ := h
    rfl
  · obtain ⟨v, d, m, rfl, hd, sz, q⟩ := h
    refine ⟨_, (pss_cons (ps_if (PW.pt (pw_or (pt_not (pt_val (pe_callB (id := "isinstance") (r := rIsi K) call_isi (by rfl) T.b_isinstance (by decide +kernel) (pa_cons (pv 0) (pa_cons (pe_bltn (v := .ty "tuple") (by rfl) T.b_tuple (by decide +kernel) rfl) pa_nil))))) (pw_or1 (pt_cmpR op_ne (pe_callB (id := "len") (r := Evl.rLenS K) call_len_seq (by rfl) T.b_len PySem.boot_len (pa_cons (pv 0) pa_nil)) pe_int (nomark _))))) (pss_one (ps_ret pe_bl)) pss_nil)
      (pss_cons (ps_asg (pv 0) (pg_tup (n := 2) (by rfl) (pgs_cons (pg_name (i := 2) sc_is_pair.nd rfl (Or.inl rfl)) (pgs_cons (pg_name (i := 3) sc_is_pair.nd rfl (Or.inl rfl)) pgs_nil))))
      (pss_one (ps_ret (pe_and (pe_call G_is_number (hr.mono (by decide)) rfl D_is_number.g D_is_number.F.kp D_is_number.b .nil pass0 (pa_cons (pv 2) pa_nil)) (pe_one (pe_call G_is_below (hr.mono (by decide)) rfl D_is_below.g D_is_below.F.kp D_is_below.b .nil pass0 (pa_cons (pv 3) (pa_cons (pv 1) pa_nil))))))))), ?_⟩
    try simp (maxSteps := 1000000) only [tSeq, tIfS, tTest, tOp, tUn, tCB, tCons, tNil, tVar, tC, rI0, rI, rU, rEq, rNe, tRet, tRetN, tAsg, gName, gSub, tBM, tBM0, tNext, tB, tNot, tAnd, tOr, tIf, tCall, tDrop, tBreak, tCont, L2.start, tDGet, sDPut, tTup, tLst, tDNewK, tRevL, rCat, rAppend, rPop, rSetL, tAndV, tOrV, tNotV, tSl, tPart, tNoPart, tM1, gTup, gCons, gNil, cxK, cxnK, List.map_cons, List.map_nil, List.length_cons, List.length_nil, List.replicate, List.cons_append, List.nil_append, List.append_nil, List.set_cons_zero, List.set_cons_succ, List.getElem?_cons_zero, List.getElem?_cons_succ, Option.some.injEq, V.ref.injEq, V.int.injEq, V.str.injEq, V.bl.injEq, V.ty.injEq, exists_eq_left', exists_eq_left, exists_and_left, List.cons.injEq, and_true, true_and, sc_ii, sc_ss, sc_bb, sc_ni, sc_in, sc_is, sc_si, sc_nn, decide_true, decide_false, reduceCtorEq, Bool.false_eq_true, if_true, if_false, ite_true, ite_false, exists_const, eq_self, false_and, and_false, or_false, false_or, exists_false, Evl.rLenS, rSum, wipe, tYes, exists_eq, exists_eq', rIxL, rIxT, rIxS, exists_and_right, gt_iff_lt, not_true_eq_false, not_false_eq_true, Bool.not_true, Bool.not_false, decide_eq_true_eq, Nat.reduceSub, Nat.reduceAdd, List.append_assoc, tChain, tDIn, tDNotIn, sDDel, tAug, ipI]
    refine isi_Dtup hd ?_
    cases hd with
    | @tup a xs ds e ha =>
      try simp (maxSteps := 1000000) only [tSeq, tIfS, tTest, tOp, tUn, tCB, tCons, tNil, tVar, tC, rI0, rI, rU, rEq, rNe, tRet, tRetN, tAsg, gName, gSub, tBM, tBM0, tNext, tB, tNot, tAnd, tOr, tIf, tCall, tDrop, tBreak, tCont, L2.start, tDGet, sDPut, tTup, tLst, tDNewK, tRevL, rCat, rAppend, rPop, rSetL, tAndV, tOrV, tNotV, tSl, tPart, tNoPart, tM1, gTup, gCons, gNil, cxK, cxnK, List.map_cons, List.map_nil, List.length_cons, List.length_nil, List.replicate, List.cons_append, List.nil_append, List.append_nil, List.set_cons_zero, List.set_cons_succ, List.getElem?_cons_zero, List.getElem?_cons_succ, Option.some.injEq, V.ref.injEq, V.int.injEq, V.str.injEq, V.bl.injEq, V.ty.injEq, exists_eq_left', exists_eq_left, exists_and_left, List.cons.injEq, and_true, true_and, sc_ii, sc_ss, sc_bb, sc_ni, sc_in, sc_is, sc_si, sc_nn, decide_true, decide_false, reduceCtorEq, Bool.false_eq_true, if_true, if_false, ite_true, ite_false, exists_const, eq_self, false_and, and_false, or_false, false_or, exists_false, Evl.rLenS, rSum, wipe, tYes, exists_eq, exists_eq', rIxL, rIxT, rIxS, exists_and_right, gt_iff_lt, not_true_eq_false, not_false_eq_true, Bool.not_true, Bool.not_false, decide_eq_true_eq, Nat.reduceSub, Nat.reduceAdd, List.append_assoc, tChain, tDIn, tDNotIn, sDDel, tAug, ipI, isTupD]
      have hl := ha.len
      refine ⟨xs, .inr (sq_t e), ?_⟩
      rw [hl]
      by_cases h2 : ds.length = 2
      · obtain ⟨da, db, rfl⟩ : ∃ a b, ds = [a, b] := by
          match ds, h2 with
          | [a, b], _ => exact ⟨a, b, rfl⟩
        cases ha with
        | cons h1 ht =>
        cases ht with
        | cons h3 ht =>
        cases ht
        have q' : ∀ H', Kp [] H H' → Q (.bl (belowD 10 da && belowD m db)) H' := q
        have e2 : (((2 : Nat) : Int) = 2) = True := eq_true rfl
        try simp (maxSteps := 1000000) only [tSeq, tIfS, tTest, tOp, tUn, tCB, tCons, tNil, tVar, tC, rI0, rI, rU, rEq, rNe, tRet, tRetN, tAsg, gName, gSub, tBM, tBM0, tNext, tB, tNot, tAnd, tOr, tIf, tCall, tDrop, tBreak, tCont, L2.start, tDGet, sDPut, tTup, tLst, tDNewK, tRevL, rCat, rAppend, rPop, rSetL, tAndV, tOrV, tNotV, tSl, tPart, tNoPart, tM1, gTup, gCons, gNil, cxK, cxnK, List.map_cons, List.map_nil, List.length_cons, List.length_nil, List.replicate, List.cons_append, List.nil_append, List.append_nil, List.set_cons_zero, List.set_cons_succ, List.getElem?_cons_zero, List.getElem?_cons_succ, Option.some.injEq, V.ref.injEq, V.int.injEq, V.str.injEq, V.bl.injEq, V.ty.injEq, exists_eq_left', exists_eq_left, exists_and_left, List.cons.injEq, and_true, true_and, sc_ii, sc_ss, sc_bb, sc_ni, sc_in, sc_is, sc_si, sc_nn, decide_true, decide_false, reduceCtorEq, Bool.false_eq_true, if_true, if_false, ite_true, ite_false, exists_const, eq_self, false_and, and_false, or_false, false_or, exists_false, Evl.rLenS, rSum, wipe, tYes, exists_eq, exists_eq', rIxL, rIxT, rIxS, exists_and_right, gt_iff_lt, not_true_eq_false, not_false_eq_true, Bool.not_true, Bool.not_false, decide_eq_true_eq, Nat.reduceSub, Nat.reduceAdd, List.append_assoc, tChain, tDIn, tDNotIn, sDDel, tAug, ipI, e2]
        refine ⟨_, sq_t e, rfl, _, _, rfl, _, _, rfl, rfl, ?_⟩
        refine ⟨_, da, rfl, h1, szAll_mem sz da (by simp), True.intro, fun H1 k1 => ?_⟩
        cases hn : belowD 10 da with
        | false =>
          rw [hn] at q'
          try simp (maxSteps := 1000000) only [tSeq, tIfS, tTest, tOp, tUn, tCB, tCons, tNil, tVar, tC, rI0, rI, rU, rEq, rNe, tRet, tRetN, tAsg, gName, gSub, tBM, tBM0, tNext, tB, tNot, tAnd, tOr, tIf, tCall, tDrop, tBreak, tCont, L2.start, tDGet, sDPut, tTup, tLst, tDNewK, tRevL, rCat, rAppend, rPop, rSetL, tAndV, tOrV, tNotV, tSl, tPart, tNoPart, tM1, gTup, gCons, gNil, cxK, cxnK, List.map_cons, List.map_nil, List.length_cons, List.length_nil, List.replicate, List.cons_append, List.nil_append, List.append_nil, List.set_cons_zero, List.set_cons_succ, List.getElem?_cons_zero, List.getElem?_cons_succ, Option.some.injEq, V.ref.injEq, V.int.injEq, V.str.injEq, V.bl.injEq, V.ty.injEq, exists_eq_left', exists_eq_left, exists_and_left, List.cons.injEq, and_true, true_and, sc_ii, sc_ss, sc_bb, sc_ni, sc_in, sc_is, sc_si, sc_nn, decide_true, decide_false, reduceCtorEq, Bool.false_eq_true, if_true, if_false, ite_true, ite_false, exists_const, eq_self, false_and, and_false, or_false, false_or, exists_false, Evl.rLenS, rSum, wipe, tYes, exists_eq, exists_eq', rIxL, rIxT, rIxS, exists_and_right, gt_iff_lt, not_true_eq_false, not_false_eq_true, Bool.not_true, Bool.not_false, decide_eq_true_eq, Nat.reduceSub, Nat.reduceAdd, List.append_assoc, tChain, tDIn, tDNotIn, sDDel, tAug, ipI]
          exact q' _ k1
        | true =>
          rw [hn] at q'
          try simp (maxSteps := 1000000) only [tSeq, tIfS, tTest, tOp, tUn, tCB, tCons, tNil, tVar, tC, rI0, rI, rU, rEq, rNe, tRet, tRetN, tAsg, gName, gSub, tBM, tBM0, tNext, tB, tNot, tAnd, tOr, tIf, tCall, tDrop, tBreak, tCont, L2.start, tDGet, sDPut, tTup, tLst, tDNewK, tRevL, rCat, rAppend, rPop, rSetL, tAndV, tOrV, tNotV, tSl, tPart, tNoPart, tM1, gTup, gCons, gNil, cxK, cxnK, List.map_cons, List.map_nil, List.length_cons, List.length_nil, List.replicate, List.cons_append, List.nil_append, List.append_nil, List.set_cons_zero, List.set_cons_succ, List.getElem?_cons_zero, List.getElem?_cons_succ, Option.some.injEq, V.ref.injEq, V.int.injEq, V.str.injEq, V.bl.injEq, V.ty.injEq, exists_eq_left', exists_eq_left, exists_and_left, List.cons.injEq, and_true, true_and, sc_ii, sc_ss, sc_bb, sc_ni, sc_in, sc_is, sc_si, sc_nn, decide_true, decide_false, reduceCtorEq, Bool.false_eq_true, if_true, if_false, ite_true, ite_false, exists_const, eq_self, false_and, and_false, or_false, false_or, exists_false, Evl.rLenS, rSum, wipe, tYes, exists_eq, exists_eq', rIxL, rIxT, rIxS, exists_and_right, gt_iff_lt, not_true_eq_false, not_false_eq_true, Bool.not_true, Bool.not_false, decide_eq_true_eq, Nat.reduceSub, Nat.reduceAdd, List.append_assoc, tChain, tDIn, tDNotIn, sDDel, tAug, ipI]
          exact ⟨_, db, m, rfl, h3.kp k1, q' _ k1⟩
      · have e2 : ((ds.length : Nat) : Int) ≠ 2 := by omega
        have qf : pairD m (.tuple ds) = false := by
          match ds, h2 with
          | [], _ => rfl
          | [_], _ => rfl
          | _ :: _ :: _ :: _, _ => rfl
        rw [qf] at q
        try simp (maxSteps := 1000000) only [tSeq, tIfS, tTest, tOp, tUn, tCB, tCons, tNil, tVar, tC, rI0, rI, rU, rEq, rNe, tRet, tRetN, tAsg, gName, gSub, tBM, tBM0, tNext, tB, tNot, tAnd, tOr, tIf, tCall, tDrop, tBreak, tCont, L2.start, tDGet, sDPut, tTup, tLst, tDNewK, tRevL, rCat, rAppend, rPop, rSetL, tAndV, tOrV, tNotV, tSl, tPart, tNoPart, tM1, gTup, gCons, gNil, cxK, cxnK, List.map_cons, List.map_nil, List.length_cons, List.length_nil, List.replicate, List.cons_append, List.nil_append, List.append_nil, List.set_cons_zero, List.set_cons_succ, List.getElem?_cons_zero, List.getElem?_cons_succ, Option.some.injEq, V.ref.injEq, V.int.injEq, V.str.injEq, V.bl.injEq, V.ty.injEq, exists_eq_left', exists_eq_left, exists_and_left, List.cons.injEq, and_true, true_and, sc_ii, sc_ss, sc_bb, sc_ni, sc_in, sc_is, sc_si, sc_nn, decide_true, decide_false, reduceCtorEq, Bool.false_eq_true, if_true, if_false, ite_true, ite_false, exists_const, eq_self, false_and, and_false, or_false, false_or, exists_false, Evl.rLenS, rSum, wipe, tYes, exists_eq, exists_eq', rIxL, rIxT, rIxS, exists_and_right, gt_iff_lt, not_true_eq_false, not_false_eq_true, Bool.not_true, Bool.not_false, decide_eq_true_eq, Nat.reduceSub, Nat.reduceAdd, List.append_assoc, tChain, tDIn, tDNotIn, sDDel, tAug, ipI, e2]
        exact q _ (Kp.refl _ _)
    | _ =>
      try simp (maxSteps := 1000000) only [tSeq, tIfS, tTest, tOp, tUn, tCB, tCons, tNil, tVar, tC, rI0, rI, rU, rEq, rNe, tRet, tRetN, tAsg, gName, gSub, tBM, tBM0, tNext, tB, tNot, tAnd, tOr, tIf, tCall, tDrop, tBreak, tCont, L2.start, tDGet, sDPut, tTup, tLst, tDNewK, tRevL, rCat, rAppend, rPop, rSetL, tAndV, tOrV, tNotV, tSl, tPart, tNoPart, tM1, gTup, gCons, gNil, cxK, cxnK, List.map_cons, List.map_nil, List.length_cons, List.length_nil, List.replicate, List.cons_append, List.nil_append, List.append_nil, List.set_cons_zero, List.set_cons_succ, List.getElem?_cons_zero, List.getElem?_cons_succ, Option.some.injEq, V.ref.injEq, V.int.injEq, V.str.injEq, V.bl.injEq, V.ty.injEq, exists_eq_left', exists_eq_left, exists_and_left, List.cons.injEq, and_true, true_and, sc_ii, sc_ss, sc_bb, sc_ni, sc_in, sc_is, sc_si, sc_nn, decide_true, decide_false, reduceCtorEq, Bool.false_eq_true, if_true, if_false, ite_true, ite_false, exists_const, eq_self, false_and, and_false, or_false, false_or, exists_false, Evl.rLenS, rSum, wipe, tYes, exists_eq, exists_eq', rIxL, rIxT, rIxS, exists_and_right, gt_iff_lt, not_true_eq_false, not_false_eq_true, Bool.not_true, Bool.not_false, decide_eq_true_eq, Nat.reduceSub, Nat.reduceAdd, List.append_assoc, tChain, tDIn, tDNotIn, sDDel, tAug, ipI, isTupD]
      exact q _ (Kp.refl _ _)
theorem ok_is_row {f : Addr} {fd : FuncData} (D : Df K mg "is_row" s_is_row ["row"] f fd) (T : Bt mg tL t1 t2) {fb : Addr} {fdb : FuncData} (D_is_pair : Df K mg "is_pair" s_is_pair ["pair", "size"] fb fdb) (G_is_pair : FnOk P w K mg base CX0 3 fb fdb ["pair", "size"] spPairD) : FnOk P w K mg base CX0 4 f fd ["row"] (spD (fun d => ∀ ds, d = .list ds → ds.length ≤ 1000) rowD) := by
  refine D.F.ok sc_is_row (fun vs H Q E h => ?_) (fun cdv A outer s H vs Q E hr h => ?_)
  · obtain ⟨v, d, rfl, _⟩ := h
    rfl
  · obtain ⟨v, d, rfl, hd, sz, pre, q⟩ := h
    refine ⟨_, (pss_cons (ps_if (PW.pt (pw_or (pt_not (pt_val (pe_callB (id := "isinstance") (r := rIsi K) call_isi (by rfl) T.b_isinstance (by decide +kernel) (pa_cons (pv 0) (pa_cons (pe_bltn (v := .ty "list") (by rfl) T.b_list (by decide +kernel) rfl) pa_nil))))) (pw_or1 (pt_not (pt_chain op_le op_le pe_int (pe_callB (id := "len") (r := Evl.rLenS K) call_len_seq (by rfl) T.b_len PySem.boot_len (pa_cons (pv 0) pa_nil)) (pe_glob (v := .int 100) rfl T.c_MOST_STATES ⟨_, rfl⟩)))))) (pss_one (ps_ret pe_bl)) pss_nil)
      (pss_one (ps_ret (pe_callB (id := "all") (r := rAll K) (cr_all rfl) (by rfl) T.b_all (by decide +kernel) (pa_cons (pe_lc (own := [("pair", 1)]) (g := (gName 1)) (tt := tYes) rfl sc_is_row.nd (pi_list (pv 0)) (blkOk_by (N := ["row", "pair"]) (sc := defScope s_is_row) (by decide +kernel)) (fun _ _ _ _ _ => (pg_name (i := 1) sc_is_row.nd rfl (Or.inl rfl))) (fun _ _ _ _ _ => pts_nil) (fun _ _ _ _ _ => (pe_call G_is_pair (hr.mono (by decide)) rfl D_is_pair.g D_is_pair.F.kp D_is_pair.b .nil pass0 (pa_cons (pv 1) (pa_cons (pe_callB (id := "len") (r := Evl.rLenS K) call_len_seq (by rfl) T.b_len PySem.boot_len (pa_cons (pv 0) pa_nil)) pa_nil))))) pa_nil))))), ?_⟩
    try simp (maxSteps := 1000000) only [tSeq, tIfS, tTest, tOp, tUn, tCB, tCons, tNil, tVar, tC, rI0, rI, rU, rEq, rNe, tRet, tRetN, tAsg, gName, gSub, tBM, tBM0, tNext, tB, tNot, tAnd, tOr, tIf, tCall, tDrop, tBreak, tCont, L2.start, tDGet, sDPut, tTup, tLst, tDNewK, tRevL, rCat, rAppend, rPop, rSetL, tAndV, tOrV, tNotV, tSl, tPart, tNoPart, tM1, gTup, gCons, gNil, cxK, cxnK, List.map_cons, List.map_nil, List.length_cons, List.length_nil, List.replicate, List.cons_append, List.nil_append, List.append_nil, List.set_cons_zero, List.set_cons_succ, List.getElem?_cons_zero, List.getElem?_cons_succ, Option.some.injEq, V.ref.injEq, V.int.injEq, V.str.injEq, V.bl.injEq, V.ty.injEq, exists_eq_left', exists_eq_left, exists_and_left, List.cons.injEq, and_true, true_and, sc_ii, sc_ss, sc_bb, sc_ni, sc_in, sc_is, sc_si, sc_nn, decide_true, decide_false, reduceCtorEq, Bool.false_eq_true, if_true, if_false, ite_true, ite_false, exists_const, eq_self, false_and, and_false, or_false, false_or, exists_false, Evl.rLenS, rSum, wipe, tYes, exists_eq, exists_eq', rIxL, rIxT, rIxS, exists_and_right, gt_iff_lt, not_true_eq_false, not_false_eq_true, Bool.not_true, Bool.not_false, decide_eq_true_eq, Nat.reduceSub, Nat.reduceAdd, List.append_assoc, tChain, tDIn, tDNotIn, sDDel, tAug, ipI]
    refine isi_Dlst hd ?_
    cases hd with
    | @lst a xs ds e ha =>
      try simp (maxSteps := 1000000) only [tSeq, tIfS, tTest, tOp, tUn, tCB, tCons, tNil, tVar, tC, rI0, rI, rU, rEq, rNe, tRet, tRetN, tAsg, gName, gSub, tBM, tBM0, tNext, tB, tNot, tAnd, tOr, tIf, tCall, tDrop, tBreak, tCont, L2.start, tDGet, sDPut, tTup, tLst, tDNewK, tRevL, rCat, rAppend, rPop, rSetL, tAndV, tOrV, tNotV, tSl, tPart, tNoPart, tM1, gTup, gCons, gNil, cxK, cxnK, List.map_cons, List.map_nil, List.length_cons, List.length_nil, List.replicate, List.cons_append, List.nil_append, List.append_nil, List.set_cons_zero, List.set_cons_succ, List.getElem?_cons_zero, List.getElem?_cons_succ, Option.some.injEq, V.ref.injEq, V.int.injEq, V.str.injEq, V.bl.injEq, V.ty.injEq, exists_eq_left', exists_eq_left, exists_and_left, List.cons.injEq, and_true, true_and, sc_ii, sc_ss, sc_bb, sc_ni, sc_in, sc_is, sc_si, sc_nn, decide_true, decide_false, reduceCtorEq, Bool.false_eq_true, if_true, if_false, ite_true, ite_false, exists_const, eq_self, false_and, and_false, or_false, false_or, exists_false, Evl.rLenS, rSum, wipe, tYes, exists_eq, exists_eq', rIxL, rIxT, rIxS, exists_and_right, gt_iff_lt, not_true_eq_false, not_false_eq_true, Bool.not_true, Bool.not_false, decide_eq_true_eq, Nat.reduceSub, Nat.reduceAdd, List.append_assoc, tChain, tDIn, tDNotIn, sDDel, tAug, ipI, isLstD]
      have hl := ha.len
      have hb := pre ds rfl
      refine ⟨xs, .inl (sq_l e), ?_⟩
      rw [hl]
      have q' : ∀ H', Kp [] H H' → Q (.bl (decide (1 ≤ ds.length) && (decide (ds.length ≤ 100) && ds.all (pairD ds.length)))) H' := q
      by_cases h1 : 1 ≤ ds.length
      · by_cases h3 : ds.length ≤ 100
        · have e1 : (1 : Int) ≤ (ds.length : Nat) := by omega
          have e3 : ((ds.length : Nat) : Int) ≤ 100 := by omega
          rw [decide_eq_true h1, decide_eq_true h3] at q'
          try simp (maxSteps := 1000000) only [tSeq, tIfS, tTest, tOp, tUn, tCB, tCons, tNil, tVar, tC, rI0, rI, rU, rEq, rNe, tRet, tRetN, tAsg, gName, gSub, tBM, tBM0, tNext, tB, tNot, tAnd, tOr, tIf, tCall, tDrop, tBreak, tCont, L2.start, tDGet, sDPut, tTup, tLst, tDNewK, tRevL, rCat, rAppend, rPop, rSetL, tAndV, tOrV, tNotV, tSl, tPart, tNoPart, tM1, gTup, gCons, gNil, cxK, cxnK, List.map_cons, List.map_nil, List.length_cons, List.length_nil, List.replicate, List.cons_append, List.nil_append, List.append_nil, List.set_cons_zero, List.set_cons_succ, List.getElem?_cons_zero, List.getElem?_cons_succ, Option.some.injEq, V.ref.injEq, V.int.injEq, V.str.injEq, V.bl.injEq, V.ty.injEq, exists_eq_left', exists_eq_left, exists_and_left, List.cons.injEq, and_true, true_and, sc_ii, sc_ss, sc_bb, sc_ni, sc_in, sc_is, sc_si, sc_nn, decide_true, decide_false, reduceCtorEq, Bool.false_eq_true, if_true, if_false, ite_true, ite_false, exists_const, eq_self, false_and, and_false, or_false, false_or, exists_false, Evl.rLenS, rSum, wipe, tYes, exists_eq, exists_eq', rIxL, rIxT, rIxS, exists_and_right, gt_iff_lt, not_true_eq_false, not_false_eq_true, Bool.not_true, Bool.not_false, decide_eq_true_eq, Nat.reduceSub, Nat.reduceAdd, List.append_assoc, tChain, tDIn, tDNotIn, sDDel, tAug, ipI, e1, e3]
          refine ⟨.ref a, rfl, a, rfl, ⟨_, sq_l e⟩, fun o no => lc_list (xs := xs) (AllIn (pairD ds.length) ds o H) ⟨upd_same, Kp.new no⟩ (fun i H1 _ h => h.2.ls not0 (sq_l e)) ?_ ?_⟩
          · rintro i x H1 hx h
            obtain ⟨d, ed, hdx⟩ := ha.get hx
            try simp (maxSteps := 1000000) only [tSeq, tIfS, tTest, tOp, tUn, tCB, tCons, tNil, tVar, tC, rI0, rI, rU, rEq, rNe, tRet, tRetN, tAsg, gName, gSub, tBM, tBM0, tNext, tB, tNot, tAnd, tOr, tIf, tCall, tDrop, tBreak, tCont, L2.start, tDGet, sDPut, tTup, tLst, tDNewK, tRevL, rCat, rAppend, rPop, rSetL, tAndV, tOrV, tNotV, tSl, tPart, tNoPart, tM1, gTup, gCons, gNil, cxK, cxnK, List.map_cons, List.map_nil, List.length_cons, List.length_nil, List.replicate, List.cons_append, List.nil_append, List.append_nil, List.set_cons_zero, List.set_cons_succ, List.getElem?_cons_zero, List.getElem?_cons_succ, Option.some.injEq, V.ref.injEq, V.int.injEq, V.str.injEq, V.bl.injEq, V.ty.injEq, exists_eq_left', exists_eq_left, exists_and_left, List.cons.injEq, and_true, true_and, sc_ii, sc_ss, sc_bb, sc_ni, sc_in, sc_is, sc_si, sc_nn, decide_true, decide_false, reduceCtorEq, Bool.false_eq_true, if_true, if_false, ite_true, ite_false, exists_const, eq_self, false_and, and_false, or_false, false_or, exists_false, Evl.rLenS, rSum, wipe, tYes, exists_eq, exists_eq', rIxL, rIxT, rIxS, exists_and_right, gt_iff_lt, not_true_eq_false, not_false_eq_true, Bool.not_true, Bool.not_false, decide_eq_true_eq, Nat.reduceSub, Nat.reduceAdd, List.append_assoc, tChain, tDIn, tDNotIn, sDDel, tAug, ipI]
            refine ⟨xs, .inl (h.2.ls not0 (sq_l e)), x, d, ds.length, by rw [hl], hdx.kp h.2, szAll_mem sz d (List.mem_of_getElem? ed), fun H2 k2 => allIn_step no h k2 ed (by omega)⟩
          · intro H1 h
            rw [hl] at h
            exact allIn_end h (q' _ h.2)
        · have e1 : (1 : Int) ≤ (ds.length : Nat) := by omega
          have e3 : ¬ ((ds.length : Nat) : Int) ≤ 100 := by omega
          rw [decide_eq_true h1, decide_eq_false h3] at q'
          try simp (maxSteps := 1000000) only [tSeq, tIfS, tTest, tOp, tUn, tCB, tCons, tNil, tVar, tC, rI0, rI, rU, rEq, rNe, tRet, tRetN, tAsg, gName, gSub, tBM, tBM0, tNext, tB, tNot, tAnd, tOr, tIf, tCall, tDrop, tBreak, tCont, L2.start, tDGet, sDPut, tTup, tLst, tDNewK, tRevL, rCat, rAppend, rPop, rSetL, tAndV, tOrV, tNotV, tSl, tPart, tNoPart, tM1, gTup, gCons, gNil, cxK, cxnK, List.map_cons, List.map_nil, List.length_cons, List.length_nil, List.replicate, List.cons_append, List.nil_append, List.append_nil, List.set_cons_zero, List.set_cons_succ, List.getElem?_cons_zero, List.getElem?_cons_succ, Option.some.injEq, V.ref.injEq, V.int.injEq, V.str.injEq, V.bl.injEq, V.ty.injEq, exists_eq_left', exists_eq_left, exists_and_left, List.cons.injEq, and_true, true_and, sc_ii, sc_ss, sc_bb, sc_ni, sc_in, sc_is, sc_si, sc_nn, decide_true, decide_false, reduceCtorEq, Bool.false_eq_true, if_true, if_false, ite_true, ite_false, exists_const, eq_self, false_and, and_false, or_false, false_or, exists_false, Evl.rLenS, rSum, wipe, tYes, exists_eq, exists_eq', rIxL, rIxT, rIxS, exists_and_right, gt_iff_lt, not_true_eq_false, not_false_eq_true, Bool.not_true, Bool.not_false, decide_eq_true_eq, Nat.reduceSub, Nat.reduceAdd, List.append_assoc, tChain, tDIn, tDNotIn, sDDel, tAug, ipI, e1, e3]
          exact q' _ (Kp.refl _ _)
      · have e1 : ¬ (1 : Int) ≤ (ds.length : Nat) := by omega
        rw [decide_eq_false h1] at q'
        try simp (maxSteps := 1000000) only [tSeq, tIfS, tTest, tOp, tUn, tCB, tCons, tNil, tVar, tC, rI0, rI, rU, rEq, rNe, tRet, tRetN, tAsg, gName, gSub, tBM, tBM0, tNext, tB, tNot, tAnd, tOr, tIf, tCall, tDrop, tBreak, tCont, L2.start, tDGet, sDPut, tTup, tLst, tDNewK, tRevL, rCat, rAppend, rPop, rSetL, tAndV, tOrV, tNotV, tSl, tPart, tNoPart, tM1, gTup, gCons, gNil, cxK, cxnK, List.map_cons, List.map_nil, List.length_cons, List.length_nil, List.replicate, List.cons_append, List.nil_append, List.append_nil, List.set_cons_zero, List.set_cons_succ, List.getElem?_cons_zero, List.getElem?_cons_succ, Option.some.injEq, V.ref.injEq, V.int.injEq, V.str.injEq, V.bl.injEq, V.ty.injEq, exists_eq_left', exists_eq_left, exists_and_left, List.cons.injEq, and_true, true_and, sc_ii, sc_ss, sc_bb, sc_ni, sc_in, sc_is, sc_si, sc_nn, decide_true, decide_false, reduceCtorEq, Bool.false_eq_true, if_true, if_false, ite_true, ite_false, exists_const, eq_self, false_and, and_false, or_false, false_or, exists_false, Evl.rLenS, rSum, wipe, tYes, exists_eq, exists_eq', rIxL, rIxT, rIxS, exists_and_right, gt_iff_lt, not_true_eq_false, not_false_eq_true, Bool.not_true, Bool.not_false, decide_eq_true_eq, Nat.reduceSub, Nat.reduceAdd, List.append_assoc, tChain, tDIn, tDNotIn, sDDel, tAug, ipI, e1]
        exact q' _ (Kp.refl _ _)
    | _ =>
      try simp (maxSteps := 1000000) only [tSeq, tIfS, tTest, tOp, tUn, tCB, tCons, tNil, tVar, tC, rI0, rI, rU, rEq, rNe, tRet, tRetN, tAsg, gName, gSub, tBM, tBM0, tNext, tB, tNot, tAnd, tOr, tIf, tCall, tDrop, tBreak, tCont, L2.start, tDGet, sDPut, tTup, tLst, tDNewK, tRevL, rCat, rAppend, rPop, rSetL, tAndV, tOrV, tNotV, tSl, tPart, tNoPart, tM1, gTup, gCons, gNil, cxK, cxnK, List.map_cons, List.map_nil, List.length_cons, List.length_nil, List.replicate, List.cons_append, List.nil_append, List.append_nil, List.set_cons_zero, List.set_cons_succ, List.getElem?_cons_zero, List.getElem?_cons_succ, Option.some.injEq, V.ref.injEq, V.int.injEq, V.str.injEq, V.bl.injEq, V.ty.injEq, exists_eq_left', exists_eq_left, exists_and_left, List.cons.injEq, and_true, true_and, sc_ii, sc_ss, sc_bb, sc_ni, sc_in, sc_is, sc_si, sc_nn, decide_true, decide_false, reduceCtorEq, Bool.false_eq_true, if_true, if_false, ite_true, ite_false, exists_const, eq_self, false_and, and_false, or_false, false_or, exists_false, Evl.rLenS, rSum, wipe, tYes, exists_eq, exists_eq', rIxL, rIxT, rIxS, exists_and_right, gt_iff_lt, not_true_eq_false, not_false_eq_true, Bool.not_true, Bool.not_false, decide_eq_true_eq, Nat.reduceSub, Nat.reduceAdd, List.append_assoc, tChain, tDIn, tDNotIn, sDDel, tAug, ipI, isLstD]
      exact q _ (Kp.refl _ _)
end
end My

set_option Elab.async false
set_option linter.all false
set_option maxRecDepth 100000
set_option maxHeartbeats 4000000
namespace My
open PySem L2 NdefX
def mtop (i j : Nat) : Stmt := match top i with
  | .ClassDef _ _ _ b _ _ _ _ _ _ _ => b.getD j (.Pass ⟨0, 0, 0, 0⟩)
  | _ => .Pass ⟨0, 0, 0, 0⟩
abbrev s_BadTable_init : Stmt := mtop 5 0
theorem sc_BadTable_init : NScope ["self", "name", "__class__"] ["self", "name"] ["__class__"] (defScope s_BadTable_init) := nscope_by (by decide +kernel)
/-- what stands of an own error with one field, and its __init__ -/
structure Er1 (P : Program) (w : World) (K : PySem.W.Frag) (mg : Str → Option Value) (base : Heap) (nm fld : Str) (C f : Addr) (fd : FuncData) (ps : List Str) (Pf : V → Prop) : Prop where
  k : mg nm = some (.ref C)
  ox : OexC K C
  ic : PySem.W.findIn K (.ref C) "__init__" = some (some (.ref f))
  ti : PySem.W.typeIn K (.ref f) = some (.type "function")
  b : Binds K fd ps []
  G : FnOk P w K mg base (L2.CX P w) 1 f fd ps (spErr1 C fld Pf)
section
variable {P : Program} {w : World} {K : PySem.W.Frag} {mg : Str → Option Value} {base : Heap} {CX : CXT} {tL t1 t2 : Tok}
theorem ok_BadTable_init {f cc cda C : Addr} {fd : FuncData} (F : FunX K "__init__" "BadTable.__init__" s_BadTable_init f fd cc cda C) (T : ErrC K C) (G : CodeF K P cda) (hsup : mg "super" = none) (n1 : PySem.W.findIn K (.ref C) "name" = some none) {Pf : V → Prop} :
    FnOk P w K mg base CX 1 f fd ["self", "name"] (spErr1 C "name" Pf) := by
  have F0 := F
  obtain ⟨oc, od, kV, doc, pm, an, ct, osl, hfd, lk, hcd⟩ := F0.ex
  obtain ⟨cl, cld, csl, hcc⟩ := F0.cell
  refine F.ok sc_BadTable_init (fun vs H Q E h => ?_) (fun A outer s H vs Q E hr h => ?_)
  · obtain ⟨a, v, rfl, _⟩ := h
    rfl
  · obtain ⟨a, v, rfl, hp, ha, q⟩ := h
    refine ⟨_, psat_cons (psat_sup T G lk (by rw [hfd]; rfl) hcc hsup rfl rfl rfl rfl rfl rfl rfl (pa_cons pe_str pa_nil) rfl rfl rfl rfl rfl) (pss_one (ps_ost (pv 0) (pv 1))), ?_⟩
    try simp (maxSteps := 1000000) only [tSeq, tIfS, tTest, tOp, tUn, tCB, tCons, tNil, tVar, tC, rI0, rI, rU, rEq, rNe, tRet, tRetN, tAsg, gName, gSub, tBM, tBM0, tNext, tB, tNot, tAnd, tOr, tIf, tCall, tDrop, tBreak, tCont, L2.start, tDGet, sDPut, tTup, tLst, tDNewK, tRevL, rCat, rAppend, rPop, rSetL, tAndV, tOrV, tNotV, tSl, tPart, tNoPart, tM1, gTup, gCons, gNil, cxK, cxnK, List.map_cons, List.map_nil, List.length_cons, List.length_nil, List.replicate, List.cons_append, List.nil_append, List.append_nil, List.set_cons_zero, List.set_cons_succ, List.getElem?_cons_zero, List.getElem?_cons_succ, Option.some.injEq, V.ref.injEq, V.int.injEq, V.str.injEq, V.bl.injEq, V.ty.injEq, exists_eq_left', exists_eq_left, exists_and_left, List.cons.injEq, and_true, true_and, sc_ii, sc_ss, sc_bb, sc_ni, sc_in, sc_is, sc_si, sc_nn, decide_true, decide_false, reduceCtorEq, Bool.false_eq_true, if_true, if_false, ite_true, ite_false, exists_const, eq_self, false_and, and_false, or_false, false_or, exists_false, Evl.rLenS, rSum, wipe, tYes, exists_eq, exists_eq', rIxL, rIxT, rIxS, exists_and_right, gt_iff_lt, not_true_eq_false, not_false_eq_true, Bool.not_true, Bool.not_false, decide_eq_true_eq, Nat.reduceSub, Nat.reduceAdd, List.append_assoc, tChain, tDIn, tDNotIn, sDDel, tAug, ipI, startF, tSupI, tOst]
    exact ⟨ha, by decide, ha, C, T.ox, n1, .inl ⟨ha, q⟩⟩
def RowsD (H : Hp) (kvs : List (Key × V)) (rs : List (Str × PyData)) : Prop := kvs.length = rs.length ∧ ∀ (i : Nat) (k : Key) (v : V), kvs[i]? = some (k, v) → ∃ n d, k = Sum.inr n ∧ rs[i]? = some (n, d) ∧ Dq H v d ∧ szD d = true ∧ (∀ ds, d = .list ds → ds.length ≤ 1000) ∧ n.length ≤ 1000
def lenD : PyData → Nat
  | .list ds => ds.length
  | _ => 0
def goodR (m : Nat) (p : Str × PyData) : Bool := nameS p.1 && (rowD p.2 && lenD p.2 == m)
def rowsBad (rs : List (Str × PyData)) : Option Str :=
  match rs with
  | [] => some ""
  | p :: r => if 7 ≤ (p :: r).length then some "" else ((p :: r).find? fun q => !goodR (lenD p.2) q).map (·.1)
mutual
theorem Dq.kpN {H H' : Hp} {S : List Addr} (k : Kp S H H') (hS : ∀ a ∈ S, ∀ xs, H a ≠ some (.tup xs) ∧ H a ≠ some (.lst xs)) : ∀ {d : PyData} {v : V}, Dq H v d → Dq H' v d
  | _, _, .non => .non
  | _, _, .bl b => .bl b
  | _, _, .int i => .int i
  | _, _, .str x => .str x
  | _, _, .lst e h => .lst (k _ _ (fun m => (hS _ m _).2 e) e) (DqAll.kpN k hS h)
  | _, _, .tup e h => .tup (k _ _ (fun m => (hS _ m _).1 e) e) (DqAll.kpN k hS h)
theorem DqAll.kpN {H H' : Hp} {S : List Addr} (k : Kp S H H') (hS : ∀ a ∈ S, ∀ xs, H a ≠ some (.tup xs) ∧ H a ≠ some (.lst xs)) : ∀ {ds : List PyData} {vs : List V}, DqAll H vs ds → DqAll H' vs ds
  | _, _, .nil => .nil
  | _, _, .cons h t => .cons (Dq.kpN k hS h) (DqAll.kpN k hS t)
end
theorem unl {H2 H' : Hp} {d : Addr} {u : HO} (k : Kp [d] H2 H') (e : H2 d = some u) : Kp [] H2 (upd H' d u) := fun b o _ eb => by
  by_cases z : b = d
  · rw [z, upd_same, ← e, ← z, eb]
  · rw [upd_ne z]; exact k b o (not1 z) eb
theorem find_first {α : Type} {f : α → Bool} {l : List α} {i : Nat} {x : α} (e : l[i]? = some x) (hx : f x = true) (h : ∀ j y, j < i → l[j]? = some y → f y = false) : l.find? f = some x := by
  induction l generalizing i with
  | nil => cases e
  | cons a r ih =>
    cases i with
    | zero => cases e; rw [List.find?_cons, hx]
    | succ i =>
      rw [List.find?_cons, h 0 a (by omega) rfl]
      exact ih e fun j y hj ey => h (j + 1) y (by omega) ey
def CkInv (d : Addr) (v0 : V) (od : Obj) (kvs : List (Key × V)) (rs : List (Str × PyData)) (m : Nat) (H2 : Hp) (i : Nat) (σ : L2.St) (H' : Hp) : Prop := ∃ c, σ = [some (.ref d), some v0, c] ∧ H' d = some (.frz od (.dK kvs)) ∧ Kp [d] H2 H' ∧ ∀ j p, j < i → rs[j]? = some p → (!goodR m p) = false
def spCheck (C : Addr) : Sp := fun vs H Q E => ∃ (d : Addr) (kvs : List (Key × V)) (rs : List (Str × PyData)), vs = [.ref d] ∧ H d = some (.dK kvs) ∧ RowsD H kvs rs ∧ (kvs.map (·.1)).Nodup ∧ kvs.length ≤ 1000 ∧ (rowsBad rs = none → ∀ H', Kp [] H H' → Q .non H') ∧
  (∀ nm, rowsBad rs = some nm → ∀ (e : Addr) (H' : Hp), H e = none → H' e = some (.xd [("name", .str nm)]) → Kp [] H H' → E (.ref C) (some e) H')
theorem ok_check_rows {f : Addr} {fd : FuncData} (D : Df K mg "check_rows" s_check_rows ["rows"] f fd) (T : Bt mg tL t1 t2) {BT fB : Addr} {fdB : FuncData} (E_BadTable : Er1 P w K mg base "BadTable" "name" BT fB fdB ["self", "name"] (fun _ => True)) {fa : Addr} {fda : FuncData} (D_is_name : Df K mg "is_name" s_is_name ["value"] fa fda) (G_is_name : FnOk P w K mg base CX0 1 fa fda ["value"] (spD (fun _ => True) nameD))
    {fr : Addr} {fdr : FuncData} (D_is_row : Df K mg "is_row" s_is_row ["row"] fr fdr) (G_is_row : FnOk P w K mg base CX0 4 fr fdr ["row"] (spD (fun d => ∀ ds, d = .list ds → ds.length ≤ 1000) rowD)) : FnOk P w K mg base (L2.CX P w) 5 f fd ["rows"] (spCheck BT) := by
  refine D.F.okX sc_check_rows (fun vs H Q E h => ?_) (fun cdv A outer s H vs Q E hr h => ?_)
  · obtain ⟨d, _, _, rfl, _⟩ := h
    rfl
  · obtain ⟨d, kvs, rs, rfl, hd, hrs, nd, kl, qG, qB⟩ := h
    have hu := hu_of hr
    refine ⟨_, (pss_cons (ps_if (pt_not (pt_chain op_le op_le pe_int (pe_callB call_lenD (by rfl) T.b_len PySem.boot_len (pa_cons (pv 0) pa_nil)) (pe_glob (v := .int 6) rfl T.c_MOST_OPERATIONS ⟨_, rfl⟩))) (pss_one (ps_raise rfl (takes_of rfl rfl rfl rfl) (pmk_oex E_BadTable.ox E_BadTable.ic E_BadTable.ti E_BadTable.G (hr.mono (by decide)) E_BadTable.b .nil passL rfl E_BadTable.k (pa_cons pe_str pa_nil)))) pss_nil)
      (pss_cons (ps_set (i := 1) sc_check_rows.nd rfl (Or.inl rfl) (pe_ix (r := rIxL K) ix_list (pe_callTy (T := "list") (r := rListV) (call_listV rfl) (by rfl) T.b_list (by decide +kernel) (pa_cons (pe_values (pv 0)) pa_nil)) pe_int (fun _ _ => rfl)))
      (pss_one (ps_lock (ps_for (passes_of rfl) rfl (pi_keys (pv 0)) (pg_name (i := 2) sc_check_rows.nd rfl (Or.inl rfl)) (pss_one (ps_if (PW.pt (pw_or (pt_not (pt_val (pe_call G_is_name (hr.mono (by decide)) rfl D_is_name.g D_is_name.F.kp D_is_name.b .nil pass0 (pa_cons (pv 2) pa_nil)))) (pw_or (pt_not (pt_val (pe_call G_is_row (hr.mono (by decide)) rfl D_is_row.g D_is_row.F.kp D_is_row.b .nil pass0 (pa_cons (pe_dget hu (pv 0) (pv 2) (fun _ _ => rfl)) pa_nil)))) (pw_or1 (pt_cmpR op_ne (pe_callB (id := "len") (r := Evl.rLenS K) call_len_seq (by rfl) T.b_len PySem.boot_len (pa_cons (pe_dget hu (pv 0) (pv 2) (fun _ _ => rfl)) pa_nil)) (pe_callB (id := "len") (r := Evl.rLenS K) call_len_seq (by rfl) T.b_len PySem.boot_len (pa_cons (pv 1) pa_nil)) (nomark _)))))) (pss_one (ps_raise rfl (takes_lock (takes_of rfl rfl rfl rfl)) (pmk_oex E_BadTable.ox E_BadTable.ic E_BadTable.ti E_BadTable.G (hr.mono (by decide)) E_BadTable.b .nil passL rfl E_BadTable.k (pa_cons (pv 2) pa_nil)))) pss_nil))))))), ?_⟩
    have err : ∀ (nm : Str) (H1 : Hp), Kp [] H H1 → rowsBad rs = some nm → ([V.str nm] : List V).length ≤ 1000 ∧ ∀ a, H1 a = none → spErr1 BT "name" (fun _ => True) (.ref a :: ([V.str nm] ++ [])) (upd H1 a (exo a BT none)) (fun v H2 => v = .non ∧ ∃ (d : Addr) (fs : List (Str × V)), H2 a = some (exo a BT (some d)) ∧ H2 d = some (exd d fs) ∧ H1 d = none ∧ E (.ref BT) (some d) (upd (del H2 a) d (.xd fs))) (fun _ _ _ => False) := fun nm H1 kp hb =>
      err1_made (P := fun _ => True) True.intro fun e H' ne he k => qB nm hb e H' (kp.free0 ne) he (kp.trans k)
    try simp (maxSteps := 1000000) only [tSeq, tIfS, tTest, tOp, tUn, tCB, tCons, tNil, tVar, tC, rI0, rI, rU, rEq, rNe, tRet, tRetN, tAsg, gName, gSub, tBM, tBM0, tNext, tB, tNot, tAnd, tOr, tIf, tCall, tDrop, tBreak, tCont, L2.start, tDGet, sDPut, tTup, tLst, tDNewK, tRevL, rCat, rAppend, rPop, rSetL, tAndV, tOrV, tNotV, tSl, tPart, tNoPart, tM1, gTup, gCons, gNil, cxK, cxnK, List.map_cons, List.map_nil, List.length_cons, List.length_nil, List.replicate, List.cons_append, List.nil_append, List.append_nil, List.set_cons_zero, List.set_cons_succ, List.getElem?_cons_zero, List.getElem?_cons_succ, Option.some.injEq, V.ref.injEq, V.int.injEq, V.str.injEq, V.bl.injEq, V.ty.injEq, exists_eq_left', exists_eq_left, exists_and_left, List.cons.injEq, and_true, true_and, sc_ii, sc_ss, sc_bb, sc_ni, sc_in, sc_is, sc_si, sc_nn, decide_true, decide_false, reduceCtorEq, Bool.false_eq_true, if_true, if_false, ite_true, ite_false, exists_const, eq_self, false_and, and_false, or_false, false_or, exists_false, Evl.rLenS, rSum, wipe, tYes, exists_eq, exists_eq', rIxL, rIxT, rIxS, exists_and_right, gt_iff_lt, not_true_eq_false, not_false_eq_true, Bool.not_true, Bool.not_false, decide_eq_true_eq, Nat.reduceSub, Nat.reduceAdd, List.append_assoc, tChain, tDIn, tDNotIn, sDDel, tAug, ipI]
    refine ⟨kvs, hd, ?_⟩
    have hlen := hrs.1
    cases hr0 : rs with
    | nil =>
      have z0 : kvs.length = 0 := by rw [hlen, hr0]; rfl
      rw [if_neg (by omega)]
      exact err "" H (Kp.refl _ _) (by rw [hr0]; rfl)
    | cons p0 rr =>
      have zl : kvs.length = rr.length + 1 := by rw [hlen, hr0]; rfl
      rw [if_pos (by omega)]
      by_cases h7 : 7 ≤ (p0 :: rr).length
      · have h7' : 7 ≤ rr.length + 1 := h7
        have e6 : ¬ ((kvs.length : Nat) : Int) ≤ 6 := by omega
        rw [decide_eq_false e6]
        exact err "" H (Kp.refl _ _) (by rw [hr0]; exact if_pos h7)
      · have h7' : rr.length + 1 < 7 := Nat.lt_of_not_le h7
        have e6 : ((kvs.length : Nat) : Int) ≤ 6 := by omega
        rw [decide_eq_true e6]
        have rb : rowsBad rs = ((p0 :: rr).find? fun q => !goodR (lenD p0.2) q).map (·.1) := by rw [hr0]; exact if_neg h7
        obtain ⟨⟨k0, v0⟩, kr, hk0⟩ : ∃ q r, kvs = q :: r := by
          cases kvs with
          | nil => simp at zl
          | cons q r => exact ⟨q, r, rfl⟩
        refine ⟨.ref d, rfl, d, kvs, rfl, hd, fun q nq => ?_⟩
        have hdq : (upd H q (viewO q d)) d = some (.dK kvs) := by rw [upd_ne (ne_of_none hd nq)]; exact hd
        refine ⟨q, d, kvs, rfl, upd_same, hdq, fun l nl => ⟨l, rfl, _, sq_l upd_same, v0, atI_of (by decide) (by rw [hk0]; rfl), ?_⟩⟩
        have k2 : Kp [] H (upd (upd H q (viewO q d)) l (.lst (kvs.map fun kv => kv.2))) := (Kp.new nq).trans (Kp.new nl)
        generalize upd (upd H q (viewO q d)) l (.lst (kvs.map fun kv => kv.2)) = H2 at k2 ⊢
        have hd2 := k2 _ _ not0 hd
        refine ⟨d, .dK kvs, hd2, True.intro, fun od => ?_⟩
        have nf : ∀ o v, (cxOf (L2.CX P w) P w K mg base ["rows", "first_row", "name"] "check_rows" (defScope s_check_rows) f cdv A outer s H E).H_0 d ≠ some (.frz o v) := fun o v z => by
          rw [show (cxOf (L2.CX P w) P w K mg base ["rows", "first_row", "name"] "check_rows" (defScope s_check_rows) f cdv A outer s H E).H_0 d = H d from rfl, hd] at z
          cases z
        have dno : ∀ a ∈ [d], ∀ xs, H2 a ≠ some (.tup xs) ∧ H2 a ≠ some (.lst xs) := fun a ha xs => by
          rw [List.mem_singleton.mp ha, hd2]
          exact ⟨fun z => (by cases z), fun z => (by cases z)⟩
        have kl0 : Kp [d] H2 (upd H2 d (.frz od (.dK kvs))) := (Kp.refl [d] _).put List.mem_cons_self
        refine ⟨.ref d, rfl, d, od, rfl, .inl ⟨kvs, upd_same, for_it walk_keys (CkInv d v0 od kvs rs (lenD p0.2) H2) ⟨_, rfl, upd_same, kl0, fun j p hj => absurd hj (by omega)⟩ (fun i σ H' _ h => by obtain ⟨_, _, e, _⟩ := h; exact e) ?_ ?_⟩⟩
        · rintro i x σ H3 H4 hi ⟨c, rfl, hf3, k3, hg⟩ ⟨rfl, k, v, ek, rfl⟩
          obtain ⟨n, dd, rfl, er, hq, szd, bnd, nl3⟩ := hrs.2 i k v ek
          have hq3 := (hq.kp k2).kpN k3 dno
          have bad : (!goodR (lenD p0.2) (n, dd)) = true → ∀ (H5 : Hp), Kp [] H4 H5 → rowsBad rs = some n := fun z H5 _ => by
            rw [rb, find_first (x := (n, dd)) (i := i) (by rw [← hr0]; exact er) z (fun j y hj ey => hg j y hj (by rw [hr0]; exact ey))]; rfl
          try simp (maxSteps := 1000000) only [tSeq, tIfS, tTest, tOp, tUn, tCB, tCons, tNil, tVar, tC, rI0, rI, rU, rEq, rNe, tRet, tRetN, tAsg, gName, gSub, tBM, tBM0, tNext, tB, tNot, tAnd, tOr, tIf, tCall, tDrop, tBreak, tCont, L2.start, tDGet, sDPut, tTup, tLst, tDNewK, tRevL, rCat, rAppend, rPop, rSetL, tAndV, tOrV, tNotV, tSl, tPart, tNoPart, tM1, gTup, gCons, gNil, cxK, cxnK, List.map_cons, List.map_nil, List.length_cons, List.length_nil, List.replicate, List.cons_append, List.nil_append, List.append_nil, List.set_cons_zero, List.set_cons_succ, List.getElem?_cons_zero, List.getElem?_cons_succ, Option.some.injEq, V.ref.injEq, V.int.injEq, V.str.injEq, V.bl.injEq, V.ty.injEq, exists_eq_left', exists_eq_left, exists_and_left, List.cons.injEq, and_true, true_and, sc_ii, sc_ss, sc_bb, sc_ni, sc_in, sc_is, sc_si, sc_nn, decide_true, decide_false, reduceCtorEq, Bool.false_eq_true, if_true, if_false, ite_true, ite_false, exists_const, eq_self, false_and, and_false, or_false, false_or, exists_false, Evl.rLenS, rSum, wipe, tYes, exists_eq, exists_eq', rIxL, rIxT, rIxS, exists_and_right, gt_iff_lt, not_true_eq_false, not_false_eq_true, Bool.not_true, Bool.not_false, decide_eq_true_eq, Nat.reduceSub, Nat.reduceAdd, List.append_assoc, tChain, tDIn, tDNotIn, sDDel, tAug, ipI]
          refine ⟨.str n, .str n, rfl, .str n, by simp [szD, nl3], True.intro, fun H5 k5 => ?_⟩
          have hf4 := k5 _ _ not0 hf3
          have errL : ∀ (H6 : Hp), Kp [] H4 H6 → (!goodR (lenD p0.2) (n, dd)) = true → tMkO BT (spErr1 BT "name" fun _ => True) [] (tCons (tVar 2) tNil) [some (.ref d), some v0, some (.str n)] H6 (fun cls d_1 H' => WLock (cxOf (L2.CX P w) P w K mg base ["rows", "first_row", "name"] "check_rows" (defScope s_check_rows) f cdv A outer s H E) (fun cls d x H => E cls d H) cls d_1 [some (.ref d), some v0, some (.str n)] H') := fun H6 k6 hb => by
            have hf6 := k6 _ _ not0 hf3
            have k36 : Kp [d] H2 H6 := k3.trans k6.of0
            have key := err1_made (C := BT) (f := "name") (P := fun _ => True) (v := .str n) (H1 := H6) (Q := fun cls d_1 H' => WLock (cxOf (L2.CX P w) P w K mg base ["rows", "first_row", "name"] "check_rows" (defScope s_check_rows) f cdv A outer s H E) (fun cls d x H => E cls d H) cls d_1 [some (.ref d), some v0, some (.str n)] H') True.intro (fun e H' ne he k => by
              have ed : e ≠ d := fun z => by rw [z, hf6] at ne; cases ne
              exact ⟨d, .dK kvs, od, k _ _ not0 hf6, nf, qB n (bad hb H6 k6) e _ ((k2.trans (unl k36 hd2)).free0 (by rw [upd_ne ed]; exact ne)) (by rw [upd_ne ed]; exact he) (k2.trans (unl (k36.trans k.of0) hd2))⟩)
            exact ⟨.str n, rfl, key⟩
          have en : nameD (.str n) = nameS n := rfl
          rw [en]
          cases hns : nameS n with
          | false =>
            try simp (maxSteps := 1000000) only [tSeq, tIfS, tTest, tOp, tUn, tCB, tCons, tNil, tVar, tC, rI0, rI, rU, rEq, rNe, tRet, tRetN, tAsg, gName, gSub, tBM, tBM0, tNext, tB, tNot, tAnd, tOr, tIf, tCall, tDrop, tBreak, tCont, L2.start, tDGet, sDPut, tTup, tLst, tDNewK, tRevL, rCat, rAppend, rPop, rSetL, tAndV, tOrV, tNotV, tSl, tPart, tNoPart, tM1, gTup, gCons, gNil, cxK, cxnK, List.map_cons, List.map_nil, List.length_cons, List.length_nil, List.replicate, List.cons_append, List.nil_append, List.append_nil, List.set_cons_zero, List.set_cons_succ, List.getElem?_cons_zero, List.getElem?_cons_succ, Option.some.injEq, V.ref.injEq, V.int.injEq, V.str.injEq, V.bl.injEq, V.ty.injEq, exists_eq_left', exists_eq_left, exists_and_left, List.cons.injEq, and_true, true_and, sc_ii, sc_ss, sc_bb, sc_ni, sc_in, sc_is, sc_si, sc_nn, decide_true, decide_false, reduceCtorEq, Bool.false_eq_true, if_true, if_false, ite_true, ite_false, exists_const, eq_self, false_and, and_false, or_false, false_or, exists_false, Evl.rLenS, rSum, wipe, tYes, exists_eq, exists_eq', rIxL, rIxT, rIxS, exists_and_right, gt_iff_lt, not_true_eq_false, not_false_eq_true, Bool.not_true, Bool.not_false, decide_eq_true_eq, Nat.reduceSub, Nat.reduceAdd, List.append_assoc, tChain, tDIn, tDNotIn, sDDel, tAug, ipI]
            exact errL H5 k5 (by unfold goodR; rw [hns]; rfl)
          | true =>
            try simp (maxSteps := 1000000) only [tSeq, tIfS, tTest, tOp, tUn, tCB, tCons, tNil, tVar, tC, rI0, rI, rU, rEq, rNe, tRet, tRetN, tAsg, gName, gSub, tBM, tBM0, tNext, tB, tNot, tAnd, tOr, tIf, tCall, tDrop, tBreak, tCont, L2.start, tDGet, sDPut, tTup, tLst, tDNewK, tRevL, rCat, rAppend, rPop, rSetL, tAndV, tOrV, tNotV, tSl, tPart, tNoPart, tM1, gTup, gCons, gNil, cxK, cxnK, List.map_cons, List.map_nil, List.length_cons, List.length_nil, List.replicate, List.cons_append, List.nil_append, List.append_nil, List.set_cons_zero, List.set_cons_succ, List.getElem?_cons_zero, List.getElem?_cons_succ, Option.some.injEq, V.ref.injEq, V.int.injEq, V.str.injEq, V.bl.injEq, V.ty.injEq, exists_eq_left', exists_eq_left, exists_and_left, List.cons.injEq, and_true, true_and, sc_ii, sc_ss, sc_bb, sc_ni, sc_in, sc_is, sc_si, sc_nn, decide_true, decide_false, reduceCtorEq, Bool.false_eq_true, if_true, if_false, ite_true, ite_false, exists_const, eq_self, false_and, and_false, or_false, false_or, exists_false, Evl.rLenS, rSum, wipe, tYes, exists_eq, exists_eq', rIxL, rIxT, rIxS, exists_and_right, gt_iff_lt, not_true_eq_false, not_false_eq_true, Bool.not_true, Bool.not_false, decide_eq_true_eq, Nat.reduceSub, Nat.reduceAdd, List.append_assoc, tChain, tDIn, tDNotIn, sDDel, tAug, ipI]
            have vget : valV kvs (Sum.inr n) = some v := valV_mem nd (List.mem_of_getElem? ek)
            refine ⟨v, .inl ⟨kvs, Sum.inr n, .inr ⟨od, hf4⟩, rfl, vget.symm⟩, ?_⟩
            refine ⟨v, dd, rfl, hq3.kp k5, szd, bnd, fun H6 k6 => ?_⟩
            have k46 := k5.trans k6
            cases hrd : rowD dd with
            | false =>
              try simp (maxSteps := 1000000) only [tSeq, tIfS, tTest, tOp, tUn, tCB, tCons, tNil, tVar, tC, rI0, rI, rU, rEq, rNe, tRet, tRetN, tAsg, gName, gSub, tBM, tBM0, tNext, tB, tNot, tAnd, tOr, tIf, tCall, tDrop, tBreak, tCont, L2.start, tDGet, sDPut, tTup, tLst, tDNewK, tRevL, rCat, rAppend, rPop, rSetL, tAndV, tOrV, tNotV, tSl, tPart, tNoPart, tM1, gTup, gCons, gNil, cxK, cxnK, List.map_cons, List.map_nil, List.length_cons, List.length_nil, List.replicate, List.cons_append, List.nil_append, List.append_nil, List.set_cons_zero, List.set_cons_succ, List.getElem?_cons_zero, List.getElem?_cons_succ, Option.some.injEq, V.ref.injEq, V.int.injEq, V.str.injEq, V.bl.injEq, V.ty.injEq, exists_eq_left', exists_eq_left, exists_and_left, List.cons.injEq, and_true, true_and, sc_ii, sc_ss, sc_bb, sc_ni, sc_in, sc_is, sc_si, sc_nn, decide_true, decide_false, reduceCtorEq, Bool.false_eq_true, if_true, if_false, ite_true, ite_false, exists_const, eq_self, false_and, and_false, or_false, false_or, exists_false, Evl.rLenS, rSum, wipe, tYes, exists_eq, exists_eq', rIxL, rIxT, rIxS, exists_and_right, gt_iff_lt, not_true_eq_false, not_false_eq_true, Bool.not_true, Bool.not_false, decide_eq_true_eq, Nat.reduceSub, Nat.reduceAdd, List.append_assoc, tChain, tDIn, tDNotIn, sDDel, tAug, ipI]
              exact errL H6 k46 (by unfold goodR; rw [hns, hrd]; rfl)
            | true =>
              try simp (maxSteps := 1000000) only [tSeq, tIfS, tTest, tOp, tUn, tCB, tCons, tNil, tVar, tC, rI0, rI, rU, rEq, rNe, tRet, tRetN, tAsg, gName, gSub, tBM, tBM0, tNext, tB, tNot, tAnd, tOr, tIf, tCall, tDrop, tBreak, tCont, L2.start, tDGet, sDPut, tTup, tLst, tDNewK, tRevL, rCat, rAppend, rPop, rSetL, tAndV, tOrV, tNotV, tSl, tPart, tNoPart, tM1, gTup, gCons, gNil, cxK, cxnK, List.map_cons, List.map_nil, List.length_cons, List.length_nil, List.replicate, List.cons_append, List.nil_append, List.append_nil, List.set_cons_zero, List.set_cons_succ, List.getElem?_cons_zero, List.getElem?_cons_succ, Option.some.injEq, V.ref.injEq, V.int.injEq, V.str.injEq, V.bl.injEq, V.ty.injEq, exists_eq_left', exists_eq_left, exists_and_left, List.cons.injEq, and_true, true_and, sc_ii, sc_ss, sc_bb, sc_ni, sc_in, sc_is, sc_si, sc_nn, decide_true, decide_false, reduceCtorEq, Bool.false_eq_true, if_true, if_false, ite_true, ite_false, exists_const, eq_self, false_and, and_false, or_false, false_or, exists_false, Evl.rLenS, rSum, wipe, tYes, exists_eq, exists_eq', rIxL, rIxT, rIxS, exists_and_right, gt_iff_lt, not_true_eq_false, not_false_eq_true, Bool.not_true, Bool.not_false, decide_eq_true_eq, Nat.reduceSub, Nat.reduceAdd, List.append_assoc, tChain, tDIn, tDNotIn, sDDel, tAug, ipI]
              refine ⟨v, .inl ⟨kvs, Sum.inr n, .inr ⟨od, k6 _ _ not0 hf4⟩, rfl, vget.symm⟩, ?_⟩
              have isL : ∀ {dd : PyData}, rowD dd = true → ∃ ds, dd = .list ds := fun {dd} h => by
                cases dd <;> first | exact ⟨_, rfl⟩ | cases h
              obtain ⟨ds, rfl⟩ := isL hrd
              obtain ⟨n0, d0, _, er0, hq0, _, _, _⟩ := hrs.2 0 k0 v0 (by rw [hk0]; rfl)
              have ep0 : p0 = (n0, d0) := by rw [hr0] at er0; exact Option.some.inj er0
              have hrd0 : rowD d0 = true := by
                by_cases z : i = 0
                · subst z
                  rw [er] at er0
                  cases er0
                  exact hrd
                · have g0 := hg 0 (n0, d0) (by omega) er0
                  unfold goodR at g0
                  cases h : rowD d0 with
                  | true => rfl
                  | false => rw [h] at g0; cases hz : nameS n0 <;> rw [hz] at g0 <;> cases g0
              obtain ⟨ds0, rfl⟩ := isL hrd0
              have hq6 := hq3.kp k46
              have hq06 := ((hq0.kp k2).kpN k3 dno).kp k46
              cases hq6 with
              | lst e1 a1 =>
              cases hq06 with
              | lst e2 a2 =>
              refine ⟨_, rfl, _, .inl (sq_l e1), _, rfl, _, .inl (sq_l e2), ?_⟩
              rw [a1.len, a2.len]
              have lp : lenD p0.2 = ds0.length := by rw [ep0]; rfl
              by_cases hz : ds.length = ds0.length
              · have e3 : ((ds.length : Nat) : Int) = (ds0.length : Nat) := by omega
                try simp (maxSteps := 1000000) only [tSeq, tIfS, tTest, tOp, tUn, tCB, tCons, tNil, tVar, tC, rI0, rI, rU, rEq, rNe, tRet, tRetN, tAsg, gName, gSub, tBM, tBM0, tNext, tB, tNot, tAnd, tOr, tIf, tCall, tDrop, tBreak, tCont, L2.start, tDGet, sDPut, tTup, tLst, tDNewK, tRevL, rCat, rAppend, rPop, rSetL, tAndV, tOrV, tNotV, tSl, tPart, tNoPart, tM1, gTup, gCons, gNil, cxK, cxnK, List.map_cons, List.map_nil, List.length_cons, List.length_nil, List.replicate, List.cons_append, List.nil_append, List.append_nil, List.set_cons_zero, List.set_cons_succ, List.getElem?_cons_zero, List.getElem?_cons_succ, Option.some.injEq, V.ref.injEq, V.int.injEq, V.str.injEq, V.bl.injEq, V.ty.injEq, exists_eq_left', exists_eq_left, exists_and_left, List.cons.injEq, and_true, true_and, sc_ii, sc_ss, sc_bb, sc_ni, sc_in, sc_is, sc_si, sc_nn, decide_true, decide_false, reduceCtorEq, Bool.false_eq_true, if_true, if_false, ite_true, ite_false, exists_const, eq_self, false_and, and_false, or_false, false_or, exists_false, Evl.rLenS, rSum, wipe, tYes, exists_eq, exists_eq', rIxL, rIxT, rIxS, exists_and_right, gt_iff_lt, not_true_eq_false, not_false_eq_true, Bool.not_true, Bool.not_false, decide_eq_true_eq, Nat.reduceSub, Nat.reduceAdd, List.append_assoc, tChain, tDIn, tDNotIn, sDDel, tAug, ipI, e3]
                refine ⟨_, rfl, k6 _ _ not0 hf4, k3.trans k46.of0, fun j p hj ej => ?_⟩
                by_cases zj : j = i
                · subst zj
                  rw [er] at ej
                  cases ej
                  unfold goodR
                  rw [hns, hrd, lp, show lenD (.list ds) = ds.length from rfl, hz]
                  simp
                · exact hg j p (by omega) ej
              · have e3 : ¬ ((ds.length : Nat) : Int) = (ds0.length : Nat) := by omega
                try simp (maxSteps := 1000000) only [tSeq, tIfS, tTest, tOp, tUn, tCB, tCons, tNil, tVar, tC, rI0, rI, rU, rEq, rNe, tRet, tRetN, tAsg, gName, gSub, tBM, tBM0, tNext, tB, tNot, tAnd, tOr, tIf, tCall, tDrop, tBreak, tCont, L2.start, tDGet, sDPut, tTup, tLst, tDNewK, tRevL, rCat, rAppend, rPop, rSetL, tAndV, tOrV, tNotV, tSl, tPart, tNoPart, tM1, gTup, gCons, gNil, cxK, cxnK, List.map_cons, List.map_nil, List.length_cons, List.length_nil, List.replicate, List.cons_append, List.nil_append, List.append_nil, List.set_cons_zero, List.set_cons_succ, List.getElem?_cons_zero, List.getElem?_cons_succ, Option.some.injEq, V.ref.injEq, V.int.injEq, V.str.injEq, V.bl.injEq, V.ty.injEq, exists_eq_left', exists_eq_left, exists_and_left, List.cons.injEq, and_true, true_and, sc_ii, sc_ss, sc_bb, sc_ni, sc_in, sc_is, sc_si, sc_nn, decide_true, decide_false, reduceCtorEq, Bool.false_eq_true, if_true, if_false, ite_true, ite_false, exists_const, eq_self, false_and, and_false, or_false, false_or, exists_false, Evl.rLenS, rSum, wipe, tYes, exists_eq, exists_eq', rIxL, rIxT, rIxS, exists_and_right, gt_iff_lt, not_true_eq_false, not_false_eq_true, Bool.not_true, Bool.not_false, decide_eq_true_eq, Nat.reduceSub, Nat.reduceAdd, List.append_assoc, tChain, tDIn, tDNotIn, sDDel, tAug, ipI, e3]
                refine errL H6 k46 ?_
                unfold goodR
                rw [hns, hrd, lp, show lenD (.list ds) = ds.length from rfl, beq_eq_false_iff_ne.mpr hz]; rfl
        · rintro σ H3 ⟨c, rfl, hf3, k3, hg⟩
          refine ⟨hf3, qG ?_ _ (k2.trans (unl k3 hd2))⟩
          rw [rb]
          have none_ : ((p0 :: rr).find? fun q => !goodR (lenD p0.2) q) = none := by
            rw [List.find?_eq_none]
            intro y hy
            obtain ⟨j, ej⟩ := List.getElem?_of_mem hy
            have hj : j < kvs.length := by
              have := (List.getElem?_eq_some_iff.mp ej).1
              rw [List.length_cons] at this
              omega
            rw [hg j y hj (by rw [hr0]; exact ej)]
            exact Bool.false_ne_true
          rw [none_]; rfl
end
end My

set_option Elab.async false
set_option linter.all false
set_option maxRecDepth 100000
set_option maxHeartbeats 4000000
namespace My
open PySem L2 NdefX
def rLstOf (K : PySem.W.Frag) : List V → Hp → VK → Prop := fun xs H Q => ∃ p ys, xs = [V.ref p] ∧ (SqL K H p ys ∨ SqT K H p ys) ∧ ∀ (l : Addr), H l = none → Q (V.ref l) (upd H l (HO.lst ys))
abbrev s_BadNumber_init : Stmt := mtop 3 0
theorem sc_BadNumber_init : NScope ["self", "number", "__class__"] ["self", "number"] ["__class__"] (defScope s_BadNumber_init) := nscope_by (by decide +kernel)
theorem ok_BadNumber_init {P : Program} {w : World} {K : PySem.W.Frag} {mg : Str → Option Value} {base : Heap} {CX : CXT} {f cc cda C : Addr} {fd : FuncData} (F : FunX K "__init__" "BadNumber.__init__" s_BadNumber_init f fd cc cda C) (T : ErrC K C) (G : CodeF K P cda) (hsup : mg "super" = none) (n1 : PySem.W.findIn K (.ref C) "number" = some none) {Pf : V → Prop} :
    FnOk P w K mg base CX 1 f fd ["self", "number"] (spErr1 C "number" Pf) := by
  have F0 := F
  obtain ⟨oc, od, kV, doc, pm, an, ct, osl, hfd, lk, hcd⟩ := F0.ex
  obtain ⟨cl, cld, csl, hcc⟩ := F0.cell
  refine F.ok sc_BadNumber_init (fun vs H Q E h => ?_) (fun A outer s H vs Q E hr h => ?_)
  · obtain ⟨a, v, rfl, _⟩ := h
    rfl
  · obtain ⟨a, v, rfl, hp, ha, q⟩ := h
    refine ⟨_, psat_cons (psat_sup T G lk (by rw [hfd]; rfl) hcc hsup rfl rfl rfl rfl rfl rfl rfl (pa_cons pe_str pa_nil) rfl rfl rfl rfl rfl) (pss_one (ps_ost (pv 0) (pv 1))), ?_⟩
    try simp (maxSteps := 1000000) only [tSeq, tIfS, tTest, tOp, tUn, tCB, tCons, tNil, tVar, tC, rI0, rI, rU, rEq, rNe, tRet, tRetN, tAsg, gName, gSub, tBM, tBM0, tNext, tB, tNot, tAnd, tOr, tIf, tCall, tDrop, tBreak, tCont, L2.start, tDGet, sDPut, tTup, tLst, tDNewK, tRevL, rCat, rAppend, rPop, rSetL, tAndV, tOrV, tNotV, tSl, tPart, tNoPart, tM1, gTup, gCons, gNil, cxK, cxnK, List.map_cons, List.map_nil, List.length_cons, List.length_nil, List.replicate, List.cons_append, List.nil_append, List.append_nil, List.set_cons_zero, List.set_cons_succ, List.getElem?_cons_zero, List.getElem?_cons_succ, Option.some.injEq, V.ref.injEq, V.int.injEq, V.str.injEq, V.bl.injEq, V.ty.injEq, exists_eq_left', exists_eq_left, exists_and_left, List.cons.injEq, and_true, true_and, sc_ii, sc_ss, sc_bb, sc_ni, sc_in, sc_is, sc_si, sc_nn, decide_true, decide_false, reduceCtorEq, Bool.false_eq_true, if_true, if_false, ite_true, ite_false, exists_const, eq_self, false_and, and_false, or_false, false_or, exists_false, Evl.rLenS, rSum, wipe, tYes, exists_eq, exists_eq', rIxL, rIxT, rIxS, exists_and_right, gt_iff_lt, not_true_eq_false, not_false_eq_true, Bool.not_true, Bool.not_false, decide_eq_true_eq, Nat.reduceSub, Nat.reduceAdd, List.append_assoc, tChain, tDIn, tDNotIn, sDDel, tAug, ipI, startF, tSupI, tOst]
    exact ⟨ha, by decide, ha, C, T.ox, n1, .inl ⟨ha, q⟩⟩
abbrev s_NoOperation_init : Stmt := mtop 6 0
theorem sc_NoOperation_init : NScope ["self", "name", "__class__"] ["self", "name"] ["__class__"] (defScope s_NoOperation_init) := nscope_by (by decide +kernel)
theorem ok_NoOperation_init {P : Program} {w : World} {K : PySem.W.Frag} {mg : Str → Option Value} {base : Heap} {CX : CXT} {f cc cda C : Addr} {fd : FuncData} (F : FunX K "__init__" "NoOperation.__init__" s_NoOperation_init f fd cc cda C) (T : ErrC K C) (G : CodeF K P cda) (hsup : mg "super" = none) (n1 : PySem.W.findIn K (.ref C) "name" = some none) {Pf : V → Prop} :
    FnOk P w K mg base CX 1 f fd ["self", "name"] (spErr1 C "name" Pf) := by
  have F0 := F
  obtain ⟨oc, od, kV, doc, pm, an, ct, osl, hfd, lk, hcd⟩ := F0.ex
  obtain ⟨cl, cld, csl, hcc⟩ := F0.cell
  refine F.ok sc_NoOperation_init (fun vs H Q E h => ?_) (fun A outer s H vs Q E hr h => ?_)
  · obtain ⟨a, v, rfl, _⟩ := h
    rfl
  · obtain ⟨a, v, rfl, hp, ha, q⟩ := h
    refine ⟨_, psat_cons (psat_sup T G lk (by rw [hfd]; rfl) hcc hsup rfl rfl rfl rfl rfl rfl rfl (pa_cons pe_str pa_nil) rfl rfl rfl rfl rfl) (pss_one (ps_ost (pv 0) (pv 1))), ?_⟩
    try simp (maxSteps := 1000000) only [tSeq, tIfS, tTest, tOp, tUn, tCB, tCons, tNil, tVar, tC, rI0, rI, rU, rEq, rNe, tRet, tRetN, tAsg, gName, gSub, tBM, tBM0, tNext, tB, tNot, tAnd, tOr, tIf, tCall, tDrop, tBreak, tCont, L2.start, tDGet, sDPut, tTup, tLst, tDNewK, tRevL, rCat, rAppend, rPop, rSetL, tAndV, tOrV, tNotV, tSl, tPart, tNoPart, tM1, gTup, gCons, gNil, cxK, cxnK, List.map_cons, List.map_nil, List.length_cons, List.length_nil, List.replicate, List.cons_append, List.nil_append, List.append_nil, List.set_cons_zero, List.set_cons_succ, List.getElem?_cons_zero, List.getElem?_cons_succ, Option.some.injEq, V.ref.injEq, V.int.injEq, V.str.injEq, V.bl.injEq, V.ty.injEq, exists_eq_left', exists_eq_left, exists_and_left, List.cons.injEq, and_true, true_and, sc_ii, sc_ss, sc_bb, sc_ni, sc_in, sc_is, sc_si, sc_nn, decide_true, decide_false, reduceCtorEq, Bool.false_eq_true, if_true, if_false, ite_true, ite_false, exists_const, eq_self, false_and, and_false, or_false, false_or, exists_false, Evl.rLenS, rSum, wipe, tYes, exists_eq, exists_eq', rIxL, rIxT, rIxS, exists_and_right, gt_iff_lt, not_true_eq_false, not_false_eq_true, Bool.not_true, Bool.not_false, decide_eq_true_eq, Nat.reduceSub, Nat.reduceAdd, List.append_assoc, tChain, tDIn, tDNotIn, sDDel, tAug, ipI, startF, tSupI, tOst]
    exact ⟨ha, by decide, ha, C, T.ox, n1, .inl ⟨ha, q⟩⟩
abbrev s_Table_init : Stmt := mtop 17 0
theorem sc_Table_init : FnScope ["self", "rows", "first", "name"] ["self", "rows", "first"] (defScope s_Table_init) := ⟨rfl, rfl, rfl, by decide +kernel, rfl, by decide +kernel, by decide +kernel⟩
abbrev s_Table_names : Stmt := mtop 17 1
theorem sc_Table_names : FnScope ["self"] ["self"] (defScope s_Table_names) := ⟨rfl, rfl, rfl, by decide +kernel, rfl, by decide +kernel, by decide +kernel⟩
abbrev s_Table_call : Stmt := mtop 17 2
theorem sc_Table_call : FnScope ["self", "name", "state"] ["self", "name", "state"] (defScope s_Table_call) := ⟨rfl, rfl, rfl, by decide +kernel, rfl, by decide +kernel, by decide +kernel⟩
abbrev s_Table_answers : Stmt := mtop 17 3
theorem sc_Table_answers : FnScope ["self", "calls", "name", "state", "found", "answer"] ["self", "calls"] (defScope s_Table_answers) := ⟨rfl, rfl, rfl, by decide +kernel, rfl, by decide +kernel, by decide +kernel⟩
abbrev s_Table_check_name : Stmt := mtop 17 5
theorem sc_Table_check_name : FnScope ["self", "name"] ["self", "name"] (defScope s_Table_check_name) := ⟨rfl, rfl, rfl, by decide +kernel, rfl, by decide +kernel, by decide +kernel⟩
/-- rows of data that are good stand at the dict's values -/
theorem RowsD.kpN {H H' : Hp} {S : List Addr} {kvs : List (Key × V)} {rs : List (Str × PyData)} (h : RowsD H kvs rs) (k : Kp S H H') (hS : ∀ a ∈ S, ∀ xs, H a ≠ some (.tup xs) ∧ H a ≠ some (.lst xs)) : RowsD H' kvs rs :=
  ⟨h.1, fun i key v e => by
    obtain ⟨n, d, a, b, c, r⟩ := h.2 i key v e
    exact ⟨n, d, a, b, c.kpN k hS, r⟩⟩
theorem RowsD.kp {H H' : Hp} {kvs : List (Key × V)} {rs : List (Str × PyData)} (h : RowsD H kvs rs) (k : Kp [] H H') : RowsD H' kvs rs := h.kpN k fun a m => absurd m (by simp)
/-- what the class Table has for the objects -/
structure TbC (K : PySem.W.Frag) (mg : Str → Option Value) (TC : Addr) : Prop where
  k : mg "Table" = some (.ref TC)
  cl : Cls K TC
  n1 : NoAttr K TC "size"
  n2 : NoAttr K TC "first"
  n3 : NoAttr K TC "_rows"
/-- at o a Table of the good rows rs -/
def TabAt (TC : Addr) (H : Hp) (o : Addr) (m : Nat) (first : Int) (rs : List (Str × PyData)) : Prop := ∃ (dx d : Addr) (kvs : List (Key × V)), H o = some (.ins TC dx [("size", .int (m : Nat)), ("first", .int first), ("_rows", .ref d)]) ∧ H d = some (.dK kvs) ∧ RowsD H kvs rs ∧ (kvs.map (·.1)).Nodup ∧ rowsBad rs = none ∧ m = lenD (rs.headD ("", .none)).2 ∧ 0 ≤ first ∧ first < m
theorem TabAt.kp {TC : Addr} {H H' : Hp} {o : Addr} {m : Nat} {first : Int} {rs : List (Str × PyData)} (h : TabAt TC H o m first rs) (k : Kp [] H H') : TabAt TC H' o m first rs := by
  obtain ⟨dx, d, kvs, a, b, c, r⟩ := h
  exact ⟨dx, d, kvs, k _ _ not0 a, k _ _ not0 b, c.kp k, r⟩
def spTI (TC BT : Addr) : Sp := fun vs H Q E => ∃ (o dx d : Addr) (vf : V) (df : PyData) (kvs : List (Key × V)) (rs : List (Str × PyData)), vs = [.ref o, .ref d, vf] ∧ H o = some (.ins TC dx []) ∧ H d = some (.dK kvs) ∧ RowsD H kvs rs ∧ (kvs.map (·.1)).Nodup ∧ kvs.length ≤ 1000 ∧ Dq H vf df ∧
  (rowsBad rs = none → ∀ i : Int, df = .int i → 0 ≤ i → i < lenD (rs.headD ("", .none)).2 → ∀ H', TabAt TC H' o (lenD (rs.headD ("", .none)).2) i rs → Kp [o] H H' → Q .non H') ∧
  (∀ nm, (rowsBad rs = some nm ∨ (rowsBad rs = none ∧ belowD (lenD (rs.headD ("", .none)).2) df = false ∧ nm = ("" : Str))) → ∀ (e : Addr) (H' : Hp), H e = none → H' e = some (.xd [("name", .str nm)]) → Kp [o] H H' → E (.ref BT) (some e) H')
theorem rowsBad_none {rs : List (Str × PyData)} (h : rowsBad rs = none) : rs ≠ [] ∧ rs.length ≤ 6 ∧ ∀ q ∈ rs, goodR (lenD (rs.headD ("", .none)).2) q = true := by
  cases rs with
  | nil => cases h
  | cons p r =>
    have h : (if 7 ≤ (p :: r).length then some ("" : Str) else ((p :: r).find? fun q => !goodR (lenD p.2) q).map (·.1)) = none := h
    by_cases z : 7 ≤ (p :: r).length
    · rw [if_pos z] at h; cases h
    · rw [if_neg z] at h
      refine ⟨by simp, by omega, fun q hq => ?_⟩
      have h2 : ((p :: r).find? fun q => !goodR (lenD p.2) q) = none := by
        cases e : ((p :: r).find? fun q => !goodR (lenD p.2) q) with
        | none => rfl
        | some x => rw [e] at h; cases h
      have h3 := List.find?_eq_none.mp h2 q hq
      show goodR (lenD p.2) q = true
      simpa using h3
theorem isL {dd : PyData} (h : rowD dd = true) : ∃ ds, dd = .list ds := by
  cases dd <;> first | exact ⟨_, rfl⟩ | cases h
theorem goodR_row {m : Nat} {n : Str} {d : PyData} (h : goodR m (n, d) = true) : nameS n = true ∧ ∃ ds, d = .list ds ∧ rowD (.list ds) = true ∧ ds.length = m := by
  unfold goodR at h
  rw [Bool.and_eq_true, Bool.and_eq_true, beq_iff_eq] at h
  obtain ⟨ds, rfl⟩ := isL h.2.1
  exact ⟨h.1, ds, rfl, h.2.1, h.2.2⟩
theorem belowD_int {m : Int} {d : PyData} (h : belowD m d = true) : ∃ i : Int, d = .int i ∧ 0 ≤ i ∧ i < m := by
  cases d with
  | int i =>
    have h' : (decide (0 ≤ i) && decide (i < m)) = true := h
    rw [Bool.and_eq_true, decide_eq_true_eq, decide_eq_true_eq] at h'
    exact ⟨i, rfl, h'⟩
  | _ => cases h
theorem ins_no {H : Hp} {o C dx : Addr} {fs : List (Str × V)} (e : H o = some (.ins C dx fs)) : ∀ a ∈ [o], ∀ xs, H a ≠ some (.tup xs) ∧ H a ≠ some (.lst xs) := fun a m xs => by
  rw [List.mem_singleton.mp m, e]
  exact ⟨fun z => (by cases z), fun z => (by cases z)⟩
theorem RowsD.app {H : Hp} {kvs : List (Key × V)} {rs : List (Str × PyData)} (h : RowsD H kvs rs) {n : Str} {v : V} {dd : PyData} (hq : Dq H v dd) (sz : szD dd = true) (bnd : ∀ ds, dd = .list ds → ds.length ≤ 1000) (nl : n.length ≤ 1000) : RowsD H (kvs ++ [(Sum.inr n, v)]) (rs ++ [(n, dd)]) := by
  refine ⟨by simp [h.1], fun i k x e => ?_⟩
  rcases Nat.lt_trichotomy i kvs.length with z | z | z
  · rw [List.getElem?_append_left z] at e
    obtain ⟨n', d', a, b, c⟩ := h.2 i k x e
    exact ⟨n', d', a, by rw [List.getElem?_append_left (by rw [← h.1]; exact z)]; exact b, c⟩
  · subst z
    rw [List.getElem?_append_right (Nat.le_refl _), Nat.sub_self] at e
    cases e
    refine ⟨n, dd, rfl, ?_, hq, sz, bnd, nl⟩
    rw [List.getElem?_append_right (by rw [h.1]; exact Nat.le_refl _), h.1, Nat.sub_self]; rfl
  · rw [List.getElem?_append_right (by omega), List.getElem?_eq_none (by simp; omega)] at e
    cases e
theorem nd_fresh {α : Type} {l : List α} {j : Nat} {x : α} (nd : l.Nodup) (e : l[j]? = some x) : x ∉ l.take j := fun m => by
  obtain ⟨i, hi, ei⟩ := List.mem_iff_getElem.mp m
  rw [List.length_take] at hi
  rw [List.getElem_take] at ei
  obtain ⟨hj, ej⟩ := List.getElem?_eq_some_iff.mp e
  have := (List.getElem_inj nd).mp (ei.trans ej.symm)
  omega
theorem valV_fresh {kvs : List (Key × V)} {k : Key} (h : k ∉ kvs.map (·.1)) : valV kvs k = none := by
  induction kvs with
  | nil => rfl
  | cons p r ih =>
    rw [List.map_cons, List.mem_cons, not_or] at h
    have e := ih h.2
    unfold valV at e ⊢
    simp [Ne.symm h.1, e]
/-- ahead of the i-th name: the new dict at D has the rows of those before, as new lists -/
def CopyIn (d : Addr) (od : Obj) (kvs : List (Key × V)) (rs : List (Str × PyData)) (D : Addr) (H2 : Hp) (i : Nat) (H' : Hp) : Prop := H' d = some (.frz od (.dK kvs)) ∧ Kp [] H2 H' ∧ ∃ kvs', H' D = some (.dK kvs') ∧ RowsD H' kvs' (rs.take i) ∧ kvs'.map (·.1) = (kvs.map (·.1)).take i
section
variable {P : Program} {w : World} {K : PySem.W.Frag} {mg : Str → Option Value} {base : Heap} {tL t1 t2 : Tok}
theorem ok_Table_init {f : Addr} {fd : FuncData} {dvs : List V} (F : FunD K "__init__" "Table.__init__" (defArgs s_Table_init) (defBody s_Table_init) (defScope s_Table_init) dvs [] f fd) (T : Bt mg tL t1 t2) {TC BT fB : Addr} {fdB : FuncData} (C : TbC K mg TC) (E_BadTable : Er1 P w K mg base "BadTable" "name" BT fB fdB ["self", "name"] (fun _ => True))
    {fc : Addr} {fdc : FuncData} (D_check_rows : Df K mg "check_rows" s_check_rows ["rows"] fc fdc) (G_check_rows : FnOk P w K mg base (L2.CX P w) 5 fc fdc ["rows"] (spCheck BT))
    {fl : Addr} {fdl : FuncData} (D_is_below : Df K mg "is_below" s_is_below ["value", "bound"] fl fdl) (G_is_below : FnOk P w K mg base CX0 1 fl fdl ["value", "bound"] spBelow) : FnOk P w K mg base (L2.CX P w) 6 f fd ["self", "rows", "first"] (spTI TC BT) := by
  refine F.ok (CX := L2.CX P w) sc_Table_init (fun vs H Q E h => ?_) (fun cdv A outer s H vs Q E hr h => ?_)
  · obtain ⟨o, dx, d, vf, df, kvs, rs, rfl, _⟩ := h
    rfl
  · obtain ⟨o, dx, d, vf, df, kvs, rs, rfl, ho, hd, hrs, nd, kl, hf, qG, qB⟩ := h
    have hu := hu_of hr
    refine ⟨_, (pss_cons (ps_expr (pe_call G_check_rows (hr.mono (by decide)) rfl D_check_rows.g D_check_rows.F.kp D_check_rows.b .nil (passes_call (E := E) (takes_of rfl rfl rfl rfl) (fun _ _ _ _ h => h)) (pa_cons (pv 1) pa_nil)))
      (pss_cons (ps_fld (pv 0) (pe_callB (id := "len") (r := Evl.rLenS K) call_len_seq (by rfl) T.b_len PySem.boot_len (pa_cons (pe_ix (r := rIxL K) ix_list (pe_callTy (T := "list") (r := rListV) (call_listV rfl) (by rfl) T.b_list (by decide +kernel) (pa_cons (pe_values (pv 1)) pa_nil)) pe_int (fun _ _ => rfl)) pa_nil)) rfl)
      (pss_cons (ps_if (pt_not (pt_val (pe_call G_is_below (hr.mono (by decide)) rfl D_is_below.g D_is_below.F.kp D_is_below.b .nil pass0 (pa_cons (pv 2) (pa_cons (pe_fld (pv 0) rfl) pa_nil))))) (pss_one (ps_raise rfl (takes_of rfl rfl rfl rfl) (pmk_oex E_BadTable.ox E_BadTable.ic E_BadTable.ti E_BadTable.G (hr.mono (by decide)) E_BadTable.b .nil passL rfl E_BadTable.k (pa_cons pe_str pa_nil)))) pss_nil)
      (pss_cons (ps_fld (pv 0) (pv 2) rfl)
      (pss_one (ps_fld (pv 0) (pe_lock (pe_dc (own := [("name", 3)]) (g := (gName 3)) (tt := tYes) rfl sc_Table_init.nd (pi_keys (pv 1)) (blkOk_by (N := ["self", "rows", "first", "name"]) (sc := defScope s_Table_init) (by decide +kernel)) (fun _ _ _ _ _ => (pg_name (i := 3) sc_Table_init.nd rfl (Or.inl rfl))) (fun _ _ _ _ _ => pts_nil) (fun _ _ _ _ _ => (pv 3)) (fun _ _ _ _ _ => (pe_callTy (T := "list") (r := rLstOf K) call_list_of (by rfl) T.b_list (by decide +kernel) (pa_cons (pe_dget hu (pv 1) (pv 3) (fun _ _ => rfl)) pa_nil))))) rfl)))))), ?_⟩
    try simp (maxSteps := 1000000) only [tSeq, tIfS, tTest, tOp, tUn, tCB, tCons, tNil, tVar, tC, rI0, rI, rU, rEq, rNe, tRet, tRetN, tAsg, gName, gSub, tBM, tBM0, tNext, tB, tNot, tAnd, tOr, tIf, tCall, tDrop, tBreak, tCont, L2.start, tDGet, sDPut, tTup, tLst, tDNewK, tRevL, rCat, rAppend, rPop, rSetL, tAndV, tOrV, tNotV, tSl, tPart, tNoPart, tM1, gTup, gCons, gNil, cxK, cxnK, List.map_cons, List.map_nil, List.length_cons, List.length_nil, List.replicate, List.cons_append, List.nil_append, List.append_nil, List.set_cons_zero, List.set_cons_succ, List.getElem?_cons_zero, List.getElem?_cons_succ, Option.some.injEq, V.ref.injEq, V.int.injEq, V.str.injEq, V.bl.injEq, V.ty.injEq, exists_eq_left', exists_eq_left, exists_and_left, List.cons.injEq, and_true, true_and, sc_ii, sc_ss, sc_bb, sc_ni, sc_in, sc_is, sc_si, sc_nn, decide_true, decide_false, reduceCtorEq, Bool.false_eq_true, if_true, if_false, ite_true, ite_false, exists_const, eq_self, false_and, and_false, or_false, false_or, exists_false, Evl.rLenS, rSum, wipe, tYes, exists_eq, exists_eq', rIxL, rIxT, rIxS, exists_and_right, gt_iff_lt, not_true_eq_false, not_false_eq_true, Bool.not_true, Bool.not_false, decide_eq_true_eq, Nat.reduceSub, Nat.reduceAdd, List.append_assoc, tChain, tDIn, tDNotIn, sDDel, tAug, ipI]
    refine ⟨d, kvs, rs, rfl, hd, hrs, nd, kl, fun rb H1 k1 => ?_, fun nm rb e H' ne he k => qB nm (.inl rb) e H' ne he k.of0⟩
    have hd1 := k1 _ _ not0 hd
    have ho1 := k1 _ _ not0 ho
    have hrs1 := hrs.kp k1
    have hlen := hrs.1
    obtain ⟨⟨n0, d0⟩, rr, hr0⟩ : ∃ p r, rs = p :: r := by
      cases rs with
      | nil => cases rb
      | cons p r => exact ⟨p, r, rfl⟩
    have zl : kvs.length = rr.length + 1 := by rw [hlen, hr0]; rfl
    obtain ⟨⟨k0, v0⟩, kr, hk0⟩ : ∃ q r, kvs = q :: r := by
      cases kvs with
      | nil => simp at zl
      | cons q r => exact ⟨q, r, rfl⟩
    try simp (maxSteps := 1000000) only [tSeq, tIfS, tTest, tOp, tUn, tCB, tCons, tNil, tVar, tC, rI0, rI, rU, rEq, rNe, tRet, tRetN, tAsg, gName, gSub, tBM, tBM0, tNext, tB, tNot, tAnd, tOr, tIf, tCall, tDrop, tBreak, tCont, L2.start, tDGet, sDPut, tTup, tLst, tDNewK, tRevL, rCat, rAppend, rPop, rSetL, tAndV, tOrV, tNotV, tSl, tPart, tNoPart, tM1, gTup, gCons, gNil, cxK, cxnK, List.map_cons, List.map_nil, List.length_cons, List.length_nil, List.replicate, List.cons_append, List.nil_append, List.append_nil, List.set_cons_zero, List.set_cons_succ, List.getElem?_cons_zero, List.getElem?_cons_succ, Option.some.injEq, V.ref.injEq, V.int.injEq, V.str.injEq, V.bl.injEq, V.ty.injEq, exists_eq_left', exists_eq_left, exists_and_left, List.cons.injEq, and_true, true_and, sc_ii, sc_ss, sc_bb, sc_ni, sc_in, sc_is, sc_si, sc_nn, decide_true, decide_false, reduceCtorEq, Bool.false_eq_true, if_true, if_false, ite_true, ite_false, exists_const, eq_self, false_and, and_false, or_false, false_or, exists_false, Evl.rLenS, rSum, wipe, tYes, exists_eq, exists_eq', rIxL, rIxT, rIxS, exists_and_right, gt_iff_lt, not_true_eq_false, not_false_eq_true, Bool.not_true, Bool.not_false, decide_eq_true_eq, Nat.reduceSub, Nat.reduceAdd, List.append_assoc, tChain, tDIn, tDNotIn, sDDel, tAug, ipI, sFld, tFld]
    refine ⟨.ref d, rfl, d, kvs, rfl, hd1, fun q nq => ?_⟩
    have hdq : (upd H1 q (viewO q d)) d = some (.dK kvs) := by rw [upd_ne (ne_of_none hd1 nq)]; exact hd1
    refine ⟨q, d, kvs, rfl, upd_same, hdq, fun l nl => ⟨l, rfl, _, sq_l upd_same, v0, atI_of (by decide) (by rw [hk0]; rfl), ?_⟩⟩
    have k2 : Kp [] H1 (upd (upd H1 q (viewO q d)) l (.lst (kvs.map fun kv => kv.2))) := (Kp.new nq).trans (Kp.new nl)
    generalize upd (upd H1 q (viewO q d)) l (.lst (kvs.map fun kv => kv.2)) = H2 at k2 ⊢
    obtain ⟨n0', d0', _, er0, hq0, _, _, _⟩ := hrs1.2 0 k0 v0 (by rw [hk0]; rfl)
    rw [hr0] at er0
    cases er0
    try simp (maxSteps := 1000000) only [tSeq, tIfS, tTest, tOp, tUn, tCB, tCons, tNil, tVar, tC, rI0, rI, rU, rEq, rNe, tRet, tRetN, tAsg, gName, gSub, tBM, tBM0, tNext, tB, tNot, tAnd, tOr, tIf, tCall, tDrop, tBreak, tCont, L2.start, tDGet, sDPut, tTup, tLst, tDNewK, tRevL, rCat, rAppend, rPop, rSetL, tAndV, tOrV, tNotV, tSl, tPart, tNoPart, tM1, gTup, gCons, gNil, cxK, cxnK, List.map_cons, List.map_nil, List.length_cons, List.length_nil, List.replicate, List.cons_append, List.nil_append, List.append_nil, List.set_cons_zero, List.set_cons_succ, List.getElem?_cons_zero, List.getElem?_cons_succ, Option.some.injEq, V.ref.injEq, V.int.injEq, V.str.injEq, V.bl.injEq, V.ty.injEq, exists_eq_left', exists_eq_left, exists_and_left, List.cons.injEq, and_true, true_and, sc_ii, sc_ss, sc_bb, sc_ni, sc_in, sc_is, sc_si, sc_nn, decide_true, decide_false, reduceCtorEq, Bool.false_eq_true, if_true, if_false, ite_true, ite_false, exists_const, eq_self, false_and, and_false, or_false, false_or, exists_false, Evl.rLenS, rSum, wipe, tYes, exists_eq, exists_eq', rIxL, rIxT, rIxS, exists_and_right, gt_iff_lt, not_true_eq_false, not_false_eq_true, Bool.not_true, Bool.not_false, decide_eq_true_eq, Nat.reduceSub, Nat.reduceAdd, List.append_assoc, tChain, tDIn, tDNotIn, sDDel, tAug, ipI, sFld, tFld]
    have rg := rowsBad_none rb
    have rg0 := goodR_row (rg.2.2 (n0, d0) (by rw [hr0]; simp))
    obtain ⟨_, ds0, rfl, _, _⟩ := rg0
    have zm : lenD (rs.headD ("", .none)).2 = ds0.length := by rw [hr0]; rfl
    rw [zm] at qG qB
    cases hq0 with
    | @lst a0 xs0 _ e0 ha0 =>
    have hx0 : xs0.length = ds0.length := ha0.len
    have ho2 := k2 _ _ not0 ho1
    have hd2 := k2 _ _ not0 hd1
    refine ⟨a0, rfl, xs0, .inl (sq_l (k2 _ _ not0 e0)), TC, dx, [], ho2, C.cl, C.n1, by decide, TC, dx, _, upd_same, C.cl, C.n1, _, rfl, ?_⟩
    rw [hx0]
    have hrs2 := hrs1.kp k2
    have hf2 := (hf.kp k1).kp k2
    have kw1 : Kp [o] H2 (upd H2 o (.ins TC dx (putF "size" (.int (ds0.length : Nat)) []))) := (Kp.refl [o] _).put (by simp)
    have hf3 := hf2.kpN kw1 (ins_no ho2)
    refine ⟨vf, df, (ds0.length : Nat), rfl, hf3, ?_⟩
    cases hb : belowD (ds0.length : Nat) df with
    | false =>
      try simp (maxSteps := 1000000) only [tSeq, tIfS, tTest, tOp, tUn, tCB, tCons, tNil, tVar, tC, rI0, rI, rU, rEq, rNe, tRet, tRetN, tAsg, gName, gSub, tBM, tBM0, tNext, tB, tNot, tAnd, tOr, tIf, tCall, tDrop, tBreak, tCont, L2.start, tDGet, sDPut, tTup, tLst, tDNewK, tRevL, rCat, rAppend, rPop, rSetL, tAndV, tOrV, tNotV, tSl, tPart, tNoPart, tM1, gTup, gCons, gNil, cxK, cxnK, List.map_cons, List.map_nil, List.length_cons, List.length_nil, List.replicate, List.cons_append, List.nil_append, List.append_nil, List.set_cons_zero, List.set_cons_succ, List.getElem?_cons_zero, List.getElem?_cons_succ, Option.some.injEq, V.ref.injEq, V.int.injEq, V.str.injEq, V.bl.injEq, V.ty.injEq, exists_eq_left', exists_eq_left, exists_and_left, List.cons.injEq, and_true, true_and, sc_ii, sc_ss, sc_bb, sc_ni, sc_in, sc_is, sc_si, sc_nn, decide_true, decide_false, reduceCtorEq, Bool.false_eq_true, if_true, if_false, ite_true, ite_false, exists_const, eq_self, false_and, and_false, or_false, false_or, exists_false, Evl.rLenS, rSum, wipe, tYes, exists_eq, exists_eq', rIxL, rIxT, rIxS, exists_and_right, gt_iff_lt, not_true_eq_false, not_false_eq_true, Bool.not_true, Bool.not_false, decide_eq_true_eq, Nat.reduceSub, Nat.reduceAdd, List.append_assoc, tChain, tDIn, tDNotIn, sDDel, tAug, ipI]
      refine err1_made (P := fun _ => True) True.intro fun e H' ne he k => qB "" (.inr ⟨rb, hb, rfl⟩) e H' ?_ he ?_
      · have eo : e ≠ o := fun z => by rw [z, upd_same] at ne; cases ne
        rw [upd_ne eo] at ne
        exact (k1.trans k2).free0 ne
      · exact ((k1.trans k2).of0.trans kw1).trans k.of0
    | true =>
      try simp (maxSteps := 1000000) only [tSeq, tIfS, tTest, tOp, tUn, tCB, tCons, tNil, tVar, tC, rI0, rI, rU, rEq, rNe, tRet, tRetN, tAsg, gName, gSub, tBM, tBM0, tNext, tB, tNot, tAnd, tOr, tIf, tCall, tDrop, tBreak, tCont, L2.start, tDGet, sDPut, tTup, tLst, tDNewK, tRevL, rCat, rAppend, rPop, rSetL, tAndV, tOrV, tNotV, tSl, tPart, tNoPart, tM1, gTup, gCons, gNil, cxK, cxnK, List.map_cons, List.map_nil, List.length_cons, List.length_nil, List.replicate, List.cons_append, List.nil_append, List.append_nil, List.set_cons_zero, List.set_cons_succ, List.getElem?_cons_zero, List.getElem?_cons_succ, Option.some.injEq, V.ref.injEq, V.int.injEq, V.str.injEq, V.bl.injEq, V.ty.injEq, exists_eq_left', exists_eq_left, exists_and_left, List.cons.injEq, and_true, true_and, sc_ii, sc_ss, sc_bb, sc_ni, sc_in, sc_is, sc_si, sc_nn, decide_true, decide_false, reduceCtorEq, Bool.false_eq_true, if_true, if_false, ite_true, ite_false, exists_const, eq_self, false_and, and_false, or_false, false_or, exists_false, Evl.rLenS, rSum, wipe, tYes, exists_eq, exists_eq', rIxL, rIxT, rIxS, exists_and_right, gt_iff_lt, not_true_eq_false, not_false_eq_true, Bool.not_true, Bool.not_false, decide_eq_true_eq, Nat.reduceSub, Nat.reduceAdd, List.append_assoc, tChain, tDIn, tDNotIn, sDDel, tAug, ipI]
      obtain ⟨i, rfl, i0, i1⟩ := belowD_int hb
      cases hf3 with
      | int _ =>
      refine ⟨TC, dx, _, upd_same, C.cl, C.n2, (show (1 : Nat) < 1000 by decide), ?_⟩
      have kw3 : Kp [o] H2 (upd (upd H2 o (.ins TC dx (putF "size" (.int (ds0.length : Nat)) []))) o (.ins TC dx (putF "first" (.int i) (putF "size" (.int (ds0.length : Nat)) [])))) := kw1.put (by simp)
      have ho3 : (upd (upd H2 o (.ins TC dx (putF "size" (.int (ds0.length : Nat)) []))) o (.ins TC dx (putF "first" (.int i) (putF "size" (.int (ds0.length : Nat)) [])))) o = some (.ins TC dx [("size", .int (ds0.length : Nat)), ("first", .int i)]) := upd_same
      generalize (upd (upd H2 o (.ins TC dx (putF "size" (.int (ds0.length : Nat)) []))) o (.ins TC dx (putF "first" (.int i) (putF "size" (.int (ds0.length : Nat)) [])))) = H3 at kw3 ho3 ⊢
      have od_ne : o ≠ d := fun z => by rw [z, hd2] at ho2; cases ho2
      have hd3 : H3 d = some (.dK kvs) := kw3 _ _ (not1 (Ne.symm od_ne)) hd2
      have hrs3 := hrs2.kpN kw3 (ins_no ho2)
      refine ⟨d, .dK kvs, hd3, True.intro, fun od => ?_⟩
      have kl0 : Kp [d] H3 (upd H3 d (.frz od (.dK kvs))) := (Kp.refl [d] _).put List.mem_cons_self
      have dno : ∀ a ∈ [d], ∀ xs, H3 a ≠ some (.tup xs) ∧ H3 a ≠ some (.lst xs) := fun a ha xs => by
        rw [List.mem_singleton.mp ha, hd3]
        exact ⟨fun z => (by cases z), fun z => (by cases z)⟩
      have hrs4 := hrs3.kpN kl0 dno
      refine ⟨.ref d, rfl, d, od, rfl, .inl ⟨kvs, upd_same, fun D nD => dc_it walk_keys (CopyIn d od kvs rs D (upd H3 d (.frz od (.dK kvs)))) ?_ (fun i H' _ h => h.1) ?_ ?_⟩⟩
      · have dD : d ≠ D := ne_of_none upd_same nD
        exact ⟨by rw [upd_ne dD, upd_same], Kp.new nD, [], upd_same, ⟨rfl, fun i k v e => by cases e⟩, rfl⟩
      · rintro j x H5 H6 hj ⟨hf5, k5, kvs', hD5, hr5, hk5⟩ ⟨rfl, k, v, ek, rfl⟩
        obtain ⟨n, dd, rfl, er, hq, szd, bnd, nl3⟩ := hrs4.2 j k v ek
        try simp (maxSteps := 1000000) only [tSeq, tIfS, tTest, tOp, tUn, tCB, tCons, tNil, tVar, tC, rI0, rI, rU, rEq, rNe, tRet, tRetN, tAsg, gName, gSub, tBM, tBM0, tNext, tB, tNot, tAnd, tOr, tIf, tCall, tDrop, tBreak, tCont, L2.start, tDGet, sDPut, tTup, tLst, tDNewK, tRevL, rCat, rAppend, rPop, rSetL, tAndV, tOrV, tNotV, tSl, tPart, tNoPart, tM1, gTup, gCons, gNil, cxK, cxnK, List.map_cons, List.map_nil, List.length_cons, List.length_nil, List.replicate, List.cons_append, List.nil_append, List.append_nil, List.set_cons_zero, List.set_cons_succ, List.getElem?_cons_zero, List.getElem?_cons_succ, Option.some.injEq, V.ref.injEq, V.int.injEq, V.str.injEq, V.bl.injEq, V.ty.injEq, exists_eq_left', exists_eq_left, exists_and_left, List.cons.injEq, and_true, true_and, sc_ii, sc_ss, sc_bb, sc_ni, sc_in, sc_is, sc_si, sc_nn, decide_true, decide_false, reduceCtorEq, Bool.false_eq_true, if_true, if_false, ite_true, ite_false, exists_const, eq_self, false_and, and_false, or_false, false_or, exists_false, Evl.rLenS, rSum, wipe, tYes, exists_eq, exists_eq', rIxL, rIxT, rIxS, exists_and_right, gt_iff_lt, not_true_eq_false, not_false_eq_true, Bool.not_true, Bool.not_false, decide_eq_true_eq, Nat.reduceSub, Nat.reduceAdd, List.append_assoc, tChain, tDIn, tDNotIn, sDDel, tAug, ipI]
        obtain ⟨_, ds, rfl, _, _⟩ := goodR_row (rg.2.2 (n, dd) (List.mem_of_getElem? er))
        cases hq with
        | @lst a xs _ e ha =>
        refine ⟨.ref a, .inl ⟨kvs, Sum.inr n, .inr ⟨od, hf5⟩, rfl, (valV_mem nd (List.mem_of_getElem? ek)).symm⟩, ?_⟩
        refine ⟨a, xs, rfl, .inl (sq_l (k5 _ _ not0 e)), fun p np => ?_⟩
        have hkj : (kvs.map (·.1))[j]? = some (Sum.inr n) := by rw [List.getElem?_map, ek]; rfl
        have fr : (Sum.inr n : Key) ∉ kvs'.map (·.1) := by rw [hk5]; exact nd_fresh nd hkj
        have kp6 : Kp [] H6 (upd H6 p (.lst xs)) := Kp.new np
        have hD6 := kp6 _ _ not0 hD5
        have dD : d ≠ D := fun z => by rw [z, hD5] at hf5; cases hf5
        have l5 : kvs'.length ≤ 1000 := by
          have := congrArg List.length hk5
          rw [List.length_map, List.length_take, List.length_map] at this
          omega
        refine ⟨kvs', Sum.inr n, rfl, hD6, smallL (by omega), ?_⟩
        rw [putK_new _ (valV_fresh fr)]
        have kw7 : Kp [D] (upd H6 p (.lst xs)) (upd (upd H6 p (.lst xs)) D (.dK (kvs' ++ [(Sum.inr n, .ref p)]))) := (Kp.refl [D] _).put List.mem_cons_self
        have Dno : ∀ a ∈ [D], ∀ xs', (upd H6 p (.lst xs)) a ≠ some (.tup xs') ∧ (upd H6 p (.lst xs)) a ≠ some (.lst xs') := fun a ha xs' => by
          rw [List.mem_singleton.mp ha, hD6]
          exact ⟨fun z => (by cases z), fun z => (by cases z)⟩
        refine ⟨kw7 _ _ (not1 dD) (kp6 _ _ not0 hf5), (k5.trans kp6).wr nD, _, upd_same, ?_, ?_⟩
        · rw [take_snoc er]
          have hnew : Dq (upd H6 p (.lst xs)) (.ref p) (.list ds) := .lst upd_same (DqAll.kpN (k5.trans kp6) (fun a m => absurd m (by simp)) ha)
          exact RowsD.app ((hr5.kp kp6).kpN kw7 Dno) (hnew.kpN kw7 Dno) szd bnd nl3
        · rw [List.map_append, take_snoc hkj, hk5]; rfl
      · rintro H5 ⟨hf5, k5, kvs', hD5, hr5, hk5⟩
        have dD : d ≠ D := fun z => by rw [z, hD5] at hf5; cases hf5
        have oD : o ≠ D := fun z => by rw [← z, upd_ne od_ne, ho3] at nD; cases nD
        have ho5 := k5 o _ not0 (by rw [upd_ne od_ne]; exact ho3)
        have ho6 : (upd H5 d (.dK kvs)) o = some (.ins TC dx [("size", .int (ds0.length : Nat)), ("first", .int i)]) := by rw [upd_ne od_ne]; exact ho5
        refine ⟨hf5, TC, dx, [("size", .int (ds0.length : Nat)), ("first", .int i)], ho6, C.cl, C.n3, (show (2 : Nat) < 1000 by decide), ?_⟩
        have k35 := unl (kl0.trans k5.of0) hd3
        have k56 : Kp [d] H5 (upd H5 d (.dK kvs)) := (Kp.refl [d] _).put List.mem_cons_self
        have dno5 : ∀ a ∈ [d], ∀ xs', H5 a ≠ some (.tup xs') ∧ H5 a ≠ some (.lst xs') := fun a ha xs' => by
          rw [List.mem_singleton.mp ha, hf5]
          exact ⟨fun z => (by cases z), fun z => (by cases z)⟩
        have kw6 : Kp [o] (upd H5 d (.dK kvs)) (upd (upd H5 d (.dK kvs)) o (.ins TC dx (putF "_rows" (.ref D) [("size", .int (ds0.length : Nat)), ("first", .int i)]))) := (Kp.refl [o] _).put List.mem_cons_self
        have hl : kvs.length = rs.length := hlen
        rw [hl, List.take_length] at hr5
        refine qG rb i rfl i0 i1 _ ⟨dx, D, kvs', upd_same, ?_, (hr5.kpN k56 dno5).kpN kw6 (ins_no ho6), ?_, rb, zm.symm, i0, i1⟩ ((((k1.trans k2).of0.trans kw3).trans k35.of0).trans kw6)
        · rw [upd_ne (Ne.symm oD), upd_ne (Ne.symm dD)]; exact hD5
        · rw [hk5, List.take_of_length_le (by rw [List.length_map]; omega)]; exact nd
end
end My

set_option Elab.async false
set_option linter.all false
set_option maxRecDepth 100000
set_option maxHeartbeats 4000000
namespace My
open PySem L2 NdefX
/-! ### what a table tells -/
def pairI : PyData → Int × Int
  | .tuple [.int a, .int s] => (a, s)
  | _ => (0, 0)
def rowL : PyData → List (Int × Int)
  | .list ds => ds.map pairI
  | _ => []
def rowOf (rs : List (Str × PyData)) (z : Str) : List (Int × Int) := match rs.find? (fun p => decide (p.1 = z)) with
  | some p => rowL p.2
  | none => []
def cellOf (rs : List (Str × PyData)) (z : Str) (s : Int) : Int × Int := (rowOf rs z).getD s.toNat (0, 0)
def walkR (rs : List (Str × PyData)) : Int → List Str → List Int
  | _, [] => []
  | s, z :: zs => (cellOf rs z s).1 :: walkR rs (cellOf rs z s).2 zs
def stateR (rs : List (Str × PyData)) : Int → List Str → Int
  | s, [] => s
  | s, z :: zs => stateR rs (cellOf rs z s).2 zs
def hasD (rs : List (Str × PyData)) : PyData → Bool
  | .str z => nameS z && decide (z ∈ rs.map (·.1))
  | _ => false
theorem pairD_is {m : Int} {d : PyData} (h : pairD m d = true) : ∃ a s : Int, d = .tuple [.int a, .int s] ∧ 0 ≤ a ∧ a < 10 ∧ 0 ≤ s ∧ s < m := by
  match d, h with
  | .tuple [a, s], h =>
    have h' : (belowD 10 a && belowD m s) = true := h
    rw [Bool.and_eq_true] at h'
    obtain ⟨i, rfl, i0, i1⟩ := belowD_int h'.1
    obtain ⟨j, rfl, j0, j1⟩ := belowD_int h'.2
    exact ⟨i, j, rfl, i0, i1, j0, j1⟩
theorem find_key {rs : List (Str × PyData)} {z : Str} {d : PyData} {j : Nat} (nd : (rs.map (·.1)).Nodup) (e : rs[j]? = some (z, d)) : rs.find? (fun p => decide (p.1 = z)) = some (z, d) := by
  refine find_first e (by simp) fun i y hi ey => ?_
  refine decide_eq_false fun h => ?_
  have e1 : (rs.map (·.1))[j]? = some z := by rw [List.getElem?_map, e]; rfl
  have e2 : (rs.map (·.1))[i]? = some z := by rw [List.getElem?_map, ey, ← h]; rfl
  obtain ⟨a, ea⟩ := List.getElem?_eq_some_iff.mp e1
  obtain ⟨b, eb⟩ := List.getElem?_eq_some_iff.mp e2
  have := (List.getElem_inj nd).mp (ea.trans eb.symm)
  omega
theorem RowsD.keys {H : Hp} {kvs : List (Key × V)} {rs : List (Str × PyData)} (h : RowsD H kvs rs) : kvs.map (·.1) = (rs.map (·.1)).map (fun z => (Sum.inr z : Key)) := by
  refine List.ext_getElem? fun i => ?_
  rw [List.getElem?_map, List.getElem?_map, List.getElem?_map]
  cases e : kvs[i]? with
  | none =>
    have : rs[i]? = none := by
      rw [List.getElem?_eq_none_iff] at e ⊢
      have := h.1
      omega
    rw [this]; rfl
  | some p =>
    obtain ⟨k, v⟩ := p
    obtain ⟨n, d, rfl, er, _⟩ := h.2 i k v e
    rw [er]; rfl
theorem nd_names {kvs : List (Key × V)} {rs : List (Str × PyData)} (e : kvs.map (·.1) = (rs.map (·.1)).map (fun z => (Sum.inr z : Key))) (nd : (kvs.map (·.1)).Nodup) : (rs.map (·.1)).Nodup := by
  rw [e] at nd
  exact List.Pairwise.of_map _ (fun a b h e => h (by rw [e])) nd
theorem TabAt.get {TC : Addr} {H : Hp} {o : Addr} {m : Nat} {first : Int} {rs : List (Str × PyData)} (h : TabAt TC H o m first rs) {z : Str} (hz : z ∈ rs.map (·.1)) : ∃ (dx d : Addr) (kvs : List (Key × V)) (a : Addr) (xs : List V), H o = some (.ins TC dx [("size", .int (m : Nat)), ("first", .int first), ("_rows", .ref d)]) ∧ H d = some (.dK kvs) ∧ valV kvs (Sum.inr z) = some (.ref a) ∧ H a = some (.lst xs) ∧ xs.length = m ∧
    ∀ s : Int, 0 ≤ s → s < m → ∃ p, xs[s.toNat]? = some (.ref p) ∧ H p = some (.tup [.int (cellOf rs z s).1, .int (cellOf rs z s).2]) ∧ 0 ≤ (cellOf rs z s).1 ∧ (cellOf rs z s).1 < 10 ∧ 0 ≤ (cellOf rs z s).2 ∧ (cellOf rs z s).2 < m := by
  obtain ⟨dx, d, kvs, ho, hd, hr, nd, rb, em, f0, f1⟩ := h
  obtain ⟨⟨z', dd⟩, hm, rfl⟩ := List.mem_map.mp hz
  obtain ⟨j, ej⟩ := List.getElem?_of_mem hm
  obtain ⟨⟨k, v⟩, ek⟩ : ∃ p, kvs[j]? = some p := by
    have hj := (List.getElem?_eq_some_iff.mp ej).1
    exact ⟨kvs[j]'(by rw [hr.1]; exact hj), List.getElem?_eq_getElem _⟩
  obtain ⟨n, d', rfl, er, hq, _⟩ := hr.2 j k v ek
  rw [ej] at er
  cases er
  obtain ⟨hn, ds, rfl, hrow, hl⟩ := goodR_row ((rowsBad_none rb).2.2 _ hm)
  cases hq with
  | @lst a xs _ e ha =>
  refine ⟨dx, d, kvs, a, xs, ho, hd, valV_mem nd (List.mem_of_getElem? ek), e, by rw [ha.len, hl, em], fun s s0 s1 => ?_⟩
  have sl : s.toNat < xs.length := by rw [ha.len, hl, ← em]; omega
  obtain ⟨dp, edp, hdp⟩ := ha.get (List.getElem?_eq_getElem sl)
  have hall : ds.all (pairD ds.length) = true := by
    have h' : (decide (1 ≤ ds.length) && (decide (ds.length ≤ 100) && ds.all (pairD ds.length))) = true := hrow
    rw [Bool.and_eq_true, Bool.and_eq_true] at h'
    exact h'.2.2
  obtain ⟨x, y, rfl, x0, x1, y0, y1⟩ := pairD_is (List.all_eq_true.mp hall _ (List.mem_of_getElem? edp))
  have ec : cellOf rs z' s = (x, y) := by
    unfold cellOf rowOf
    rw [find_key (nd_names hr.keys nd) ej]
    show (ds.map pairI).getD s.toNat (0, 0) = (x, y)
    rw [List.getD_eq_getElem?_getD, List.getElem?_map, edp]; rfl
  rw [ec]
  have e5 : xs[s.toNat]? = some xs[s.toNat] := List.getElem?_eq_getElem sl
  rw [e5]
  generalize xs[s.toNat] = w0 at hdp
  have hl2 : ds.length = m := by rw [hl, em]
  rw [hl2] at y1
  cases hdp with
  | tup e2 h2 =>
  cases h2 with
  | cons a1 t =>
  cases t with
  | cons a2 t =>
  cases t
  cases a1
  cases a2
  exact ⟨_, rfl, e2, x0, x1, y0, y1⟩
theorem TabAt.head {TC : Addr} {H : Hp} {o : Addr} {m : Nat} {first : Int} {rs : List (Str × PyData)} (h : TabAt TC H o m first rs) : ∃ dx d : Addr, H o = some (.ins TC dx [("size", .int (m : Nat)), ("first", .int first), ("_rows", .ref d)]) := by
  obtain ⟨dx, d, _, ho, _⟩ := h
  exact ⟨dx, d, ho⟩
theorem TabAt.has {TC : Addr} {H : Hp} {o : Addr} {m : Nat} {first : Int} {rs : List (Str × PyData)} (h : TabAt TC H o m first rs) : ∃ (dx d : Addr) (kvs : List (Key × V)), H o = some (.ins TC dx [("size", .int (m : Nat)), ("first", .int first), ("_rows", .ref d)]) ∧ H d = some (.dK kvs) ∧ (kvs.map fun kv => kV kv.1) = (rs.map (·.1)).map V.str ∧ ∀ z : Str, (valV kvs (Sum.inr z)).isSome = decide (z ∈ rs.map (·.1)) := by
  obtain ⟨dx, d, kvs, ho, hd, hr, nd, rb, em, f0, f1⟩ := h
  refine ⟨dx, d, kvs, ho, hd, ?_, fun z => ?_⟩
  · have e := congrArg (List.map kV) hr.keys
    rw [List.map_map, List.map_map] at e
    exact e
  · by_cases hz : z ∈ rs.map (·.1)
    · rw [decide_eq_true hz]
      have hk : (Sum.inr z : Key) ∈ kvs.map (·.1) := by rw [hr.keys]; exact List.mem_map_of_mem hz
      obtain ⟨⟨k, v⟩, hm, ek⟩ := List.mem_map.mp hk
      have ek' : k = Sum.inr z := ek
      subst ek'
      rw [valV_mem nd hm]; rfl
    · rw [decide_eq_false hz]
      have hk : (Sum.inr z : Key) ∉ kvs.map (·.1) := by
        rw [hr.keys]
        intro h
        obtain ⟨z', hz', e⟩ := List.mem_map.mp h
        cases e
        exact hz hz'
      rw [valV_fresh hk]; rfl
section
variable {P : Program} {w : World} {K : PySem.W.Frag} {mg : Str → Option Value} {base : Heap} {tL t1 t2 : Tok}
def spTN (TC : Addr) : Sp := fun vs H Q E => ∃ (o : Addr) (m : Nat) (first : Int) (rs : List (Str × PyData)), vs = [.ref o] ∧ TabAt TC H o m first rs ∧ ∀ l H', H l = none → H' l = some (.lst ((rs.map (·.1)).map V.str)) → Kp [] H H' → Q (.ref l) H'
theorem ok_Table_names {f : Addr} {fd : FuncData} (F : Fun K "names" "Table.names" s_Table_names f fd) (T : Bt mg tL t1 t2) {TC : Addr} (C : TbC K mg TC) : FnOk P w K mg base CX0 1 f fd ["self"] (spTN TC) := by
  refine F.ok sc_Table_names (fun vs H Q E h => ?_) (fun cdv A outer s H vs Q E hr h => ?_)
  · obtain ⟨o, m, first, rs, rfl, _⟩ := h
    rfl
  · obtain ⟨o, m, first, rs, rfl, hT, q⟩ := h
    obtain ⟨dx, d, kvs, ho, hd, ek, _⟩ := hT.has
    refine ⟨_, (pss_one (ps_ret (pe_callTy (call_listD rfl) (by rfl) T.b_list (by decide +kernel) (pa_cons (pe_fld (pv 0) rfl) pa_nil)))), ?_⟩
    try simp (maxSteps := 1000000) only [tSeq, tIfS, tTest, tOp, tUn, tCB, tCons, tNil, tVar, tC, rI0, rI, rU, rEq, rNe, tRet, tRetN, tAsg, gName, gSub, tBM, tBM0, tNext, tB, tNot, tAnd, tOr, tIf, tCall, tDrop, tBreak, tCont, L2.start, tDGet, sDPut, tTup, tLst, tDNewK, tRevL, rCat, rAppend, rPop, rSetL, tAndV, tOrV, tNotV, tSl, tPart, tNoPart, tM1, gTup, gCons, gNil, cxK, cxnK, List.map_cons, List.map_nil, List.length_cons, List.length_nil, List.replicate, List.cons_append, List.nil_append, List.append_nil, List.set_cons_zero, List.set_cons_succ, List.getElem?_cons_zero, List.getElem?_cons_succ, Option.some.injEq, V.ref.injEq, V.int.injEq, V.str.injEq, V.bl.injEq, V.ty.injEq, exists_eq_left', exists_eq_left, exists_and_left, List.cons.injEq, and_true, true_and, sc_ii, sc_ss, sc_bb, sc_ni, sc_in, sc_is, sc_si, sc_nn, decide_true, decide_false, reduceCtorEq, Bool.false_eq_true, if_true, if_false, ite_true, ite_false, exists_const, eq_self, false_and, and_false, or_false, false_or, exists_false, Evl.rLenS, rSum, wipe, tYes, exists_eq, exists_eq', rIxL, rIxT, rIxS, exists_and_right, gt_iff_lt, not_true_eq_false, not_false_eq_true, Bool.not_true, Bool.not_false, decide_eq_true_eq, Nat.reduceSub, Nat.reduceAdd, List.append_assoc, tChain, tDIn, tDNotIn, sDDel, tAug, ipI, tFld]
    refine ⟨TC, dx, _, ho, C.cl, C.n3, .ref d, rfl, d, rfl, kvs, .inl hd, fun p np => ?_⟩
    rw [ek]
    exact q p _ np upd_same (Kp.new np)
def spTK (TC NO : Addr) : Sp := fun vs H Q E => ∃ (o : Addr) (v : V) (dn : PyData) (m : Nat) (first : Int) (rs : List (Str × PyData)), vs = [.ref o, v] ∧ TabAt TC H o m first rs ∧ Dq H v dn ∧ szD dn = true ∧ (hasD rs dn = true → ∀ H', Kp [] H H' → Q .non H') ∧
  (hasD rs dn = false → ∀ (e : Addr) (H' : Hp), H e = none → H' e = some (.xd [("name", v)]) → Kp [] H H' → E (.ref NO) (some e) H')
theorem ok_Table_check_name {f : Addr} {fd : FuncData} (F : Fun K "check_name" "Table.check_name" s_Table_check_name f fd) (T : Bt mg tL t1 t2) {TC NO fN : Addr} {fdN : FuncData} (C : TbC K mg TC) (E_NoOperation : Er1 P w K mg base "NoOperation" "name" NO fN fdN ["self", "name"] (fun _ => True))
    {fa : Addr} {fda : FuncData} (D_is_name : Df K mg "is_name" s_is_name ["value"] fa fda) (G_is_name : FnOk P w K mg base CX0 1 fa fda ["value"] (spD (fun _ => True) nameD)) : FnOk P w K mg base (L2.CX P w) 3 f fd ["self", "name"] (spTK TC NO) := by
  refine F.okX sc_Table_check_name (fun vs H Q E h => ?_) (fun cdv A outer s H vs Q E hr h => ?_)
  · obtain ⟨o, v, dn, m, first, rs, rfl, _⟩ := h
    rfl
  · obtain ⟨o, v, dn, m, first, rs, rfl, hT, hv, sz, qG, qB⟩ := h
    have hu := hu_of hr
    refine ⟨_, (pss_one (ps_if (PW.pt (pw_or (pt_not (pt_val (pe_call G_is_name (hr.mono (by decide)) rfl D_is_name.g D_is_name.F.kp D_is_name.b .nil pass0 (pa_cons (pv 1) pa_nil)))) (pw_or1 (pt_cmp (pc_dnotin hu (pv 1) (pe_fld (pv 0) rfl)))))) (pss_one (ps_raise rfl (takes_of rfl rfl rfl rfl) (pmk_oex E_NoOperation.ox E_NoOperation.ic E_NoOperation.ti E_NoOperation.G (hr.mono (by decide)) E_NoOperation.b .nil passL rfl E_NoOperation.k (pa_cons (pv 1) pa_nil)))) pss_nil)), ?_⟩
    try simp (maxSteps := 1000000) only [tSeq, tIfS, tTest, tOp, tUn, tCB, tCons, tNil, tVar, tC, rI0, rI, rU, rEq, rNe, tRet, tRetN, tAsg, gName, gSub, tBM, tBM0, tNext, tB, tNot, tAnd, tOr, tIf, tCall, tDrop, tBreak, tCont, L2.start, tDGet, sDPut, tTup, tLst, tDNewK, tRevL, rCat, rAppend, rPop, rSetL, tAndV, tOrV, tNotV, tSl, tPart, tNoPart, tM1, gTup, gCons, gNil, cxK, cxnK, List.map_cons, List.map_nil, List.length_cons, List.length_nil, List.replicate, List.cons_append, List.nil_append, List.append_nil, List.set_cons_zero, List.set_cons_succ, List.getElem?_cons_zero, List.getElem?_cons_succ, Option.some.injEq, V.ref.injEq, V.int.injEq, V.str.injEq, V.bl.injEq, V.ty.injEq, exists_eq_left', exists_eq_left, exists_and_left, List.cons.injEq, and_true, true_and, sc_ii, sc_ss, sc_bb, sc_ni, sc_in, sc_is, sc_si, sc_nn, decide_true, decide_false, reduceCtorEq, Bool.false_eq_true, if_true, if_false, ite_true, ite_false, exists_const, eq_self, false_and, and_false, or_false, false_or, exists_false, Evl.rLenS, rSum, wipe, tYes, exists_eq, exists_eq', rIxL, rIxT, rIxS, exists_and_right, gt_iff_lt, not_true_eq_false, not_false_eq_true, Bool.not_true, Bool.not_false, decide_eq_true_eq, Nat.reduceSub, Nat.reduceAdd, List.append_assoc, tChain, tDIn, tDNotIn, sDDel, tAug, ipI, tFld]
    refine ⟨v, dn, rfl, hv, sz, True.intro, fun H1 k1 => ?_⟩
    obtain ⟨dx, d, kvs, ho, hd, _, ek⟩ := (hT.kp k1).has
    have err : ∀ (H2 : Hp), Kp [] H H2 → hasD rs dn = false → tMkO NO (spErr1 NO "name" fun _ => True) [] (tCons (tVar 1) tNil) [some (.ref o), some v] H2 (fun cls d H' => E cls d H') := fun H2 k2 hb =>
      ⟨v, rfl, err1_made (P := fun _ => True) True.intro fun e H' ne he k => qB hb e H' (k2.free0 ne) he (k2.trans k)⟩
    cases hn : nameD dn with
    | false =>
      try simp (maxSteps := 1000000) only [tSeq, tIfS, tTest, tOp, tUn, tCB, tCons, tNil, tVar, tC, rI0, rI, rU, rEq, rNe, tRet, tRetN, tAsg, gName, gSub, tBM, tBM0, tNext, tB, tNot, tAnd, tOr, tIf, tCall, tDrop, tBreak, tCont, L2.start, tDGet, sDPut, tTup, tLst, tDNewK, tRevL, rCat, rAppend, rPop, rSetL, tAndV, tOrV, tNotV, tSl, tPart, tNoPart, tM1, gTup, gCons, gNil, cxK, cxnK, List.map_cons, List.map_nil, List.length_cons, List.length_nil, List.replicate, List.cons_append, List.nil_append, List.append_nil, List.set_cons_zero, List.set_cons_succ, List.getElem?_cons_zero, List.getElem?_cons_succ, Option.some.injEq, V.ref.injEq, V.int.injEq, V.str.injEq, V.bl.injEq, V.ty.injEq, exists_eq_left', exists_eq_left, exists_and_left, List.cons.injEq, and_true, true_and, sc_ii, sc_ss, sc_bb, sc_ni, sc_in, sc_is, sc_si, sc_nn, decide_true, decide_false, reduceCtorEq, Bool.false_eq_true, if_true, if_false, ite_true, ite_false, exists_const, eq_self, false_and, and_false, or_false, false_or, exists_false, Evl.rLenS, rSum, wipe, tYes, exists_eq, exists_eq', rIxL, rIxT, rIxS, exists_and_right, gt_iff_lt, not_true_eq_false, not_false_eq_true, Bool.not_true, Bool.not_false, decide_eq_true_eq, Nat.reduceSub, Nat.reduceAdd, List.append_assoc, tChain, tDIn, tDNotIn, sDDel, tAug, ipI]
      refine err H1 k1 ?_
      cases dn with
      | str z =>
        have hn' : nameS z = false := hn
        show (nameS z && _) = false
        rw [hn']; rfl
      | _ => rfl
    | true =>
      obtain ⟨z, rfl⟩ : ∃ z, dn = .str z := by
        cases dn <;> first | exact ⟨_, rfl⟩ | cases hn
      cases hv with
      | str _ =>
      have eh : hasD rs (.str z) = decide (z ∈ rs.map (·.1)) := by
        have hn' : nameS z = true := hn
        show (nameS z && _) = _
        rw [hn']; rfl
      try simp (maxSteps := 1000000) only [tSeq, tIfS, tTest, tOp, tUn, tCB, tCons, tNil, tVar, tC, rI0, rI, rU, rEq, rNe, tRet, tRetN, tAsg, gName, gSub, tBM, tBM0, tNext, tB, tNot, tAnd, tOr, tIf, tCall, tDrop, tBreak, tCont, L2.start, tDGet, sDPut, tTup, tLst, tDNewK, tRevL, rCat, rAppend, rPop, rSetL, tAndV, tOrV, tNotV, tSl, tPart, tNoPart, tM1, gTup, gCons, gNil, cxK, cxnK, List.map_cons, List.map_nil, List.length_cons, List.length_nil, List.replicate, List.cons_append, List.nil_append, List.append_nil, List.set_cons_zero, List.set_cons_succ, List.getElem?_cons_zero, List.getElem?_cons_succ, Option.some.injEq, V.ref.injEq, V.int.injEq, V.str.injEq, V.bl.injEq, V.ty.injEq, exists_eq_left', exists_eq_left, exists_and_left, List.cons.injEq, and_true, true_and, sc_ii, sc_ss, sc_bb, sc_ni, sc_in, sc_is, sc_si, sc_nn, decide_true, decide_false, reduceCtorEq, Bool.false_eq_true, if_true, if_false, ite_true, ite_false, exists_const, eq_self, false_and, and_false, or_false, false_or, exists_false, Evl.rLenS, rSum, wipe, tYes, exists_eq, exists_eq', rIxL, rIxT, rIxS, exists_and_right, gt_iff_lt, not_true_eq_false, not_false_eq_true, Bool.not_true, Bool.not_false, decide_eq_true_eq, Nat.reduceSub, Nat.reduceAdd, List.append_assoc, tChain, tDIn, tDNotIn, sDDel, tAug, ipI]
      refine ⟨TC, dx, _, ho, C.cl, C.n3, .ref d, rfl, d, rfl, _, .inl ⟨kvs, Sum.inr z, .inl hd, rfl, rfl⟩, ?_⟩
      rw [ek z]
      by_cases hz : z ∈ rs.map (·.1)
      · rw [decide_eq_true hz]
        exact qG (eh.trans (decide_eq_true hz)) H1 k1
      · rw [decide_eq_false hz]
        exact err H1 k1 (eh.trans (decide_eq_false hz))
def spTCall (TC NO BN : Addr) : Sp := fun vs H Q E => ∃ (o : Addr) (v u : V) (dn ds : PyData) (m : Nat) (first : Int) (rs : List (Str × PyData)), vs = [.ref o, v, u] ∧ TabAt TC H o m first rs ∧ Dq H v dn ∧ szD dn = true ∧ Dq H u ds ∧
  (∀ (z : Str) (s : Int), dn = .str z → ds = .int s → hasD rs dn = true → 0 ≤ s → s < m → ∀ (p : Addr) (H' : Hp), H' p = some (.tup [.int (cellOf rs z s).1, .int (cellOf rs z s).2]) → Kp [] H H' → Q (.ref p) H') ∧
  (hasD rs dn = false → ∀ (e : Addr) (H' : Hp), H e = none → H' e = some (.xd [("name", v)]) → Kp [] H H' → E (.ref NO) (some e) H') ∧
  (hasD rs dn = true → belowD m ds = false → ∀ (e : Addr) (H' : Hp), H e = none → H' e = some (.xd [("number", u)]) → Kp [] H H' → E (.ref BN) (some e) H')
theorem ok_Table_call {f : Addr} {fd : FuncData} (F : Fun K "__call__" "Table.__call__" s_Table_call f fd) (T : Bt mg tL t1 t2) {TC NO BN fB fN : Addr} {fdB fdN : FuncData} (C : TbC K mg TC) (E_BadNumber : Er1 P w K mg base "BadNumber" "number" BN fB fdB ["self", "number"] (fun _ => True))
    (ME_Table_check_name : Meth K TC "check_name" fN) (bM_Table_check_name : Binds K fdN ["self", "name"] []) (G_Table_check_name : FnOk P w K mg base (L2.CX P w) 3 fN fdN ["self", "name"] (spTK TC NO))
    {fl : Addr} {fdl : FuncData} (D_is_below : Df K mg "is_below" s_is_below ["value", "bound"] fl fdl) (G_is_below : FnOk P w K mg base CX0 1 fl fdl ["value", "bound"] spBelow) : FnOk P w K mg base (L2.CX P w) 4 f fd ["self", "name", "state"] (spTCall TC NO BN) := by
  refine F.okX sc_Table_call (fun vs H Q E h => ?_) (fun cdv A outer s H vs Q E hr h => ?_)
  · obtain ⟨o, v, u, dn, ds, m, first, rs, rfl, _⟩ := h
    rfl
  · obtain ⟨o, v, u, dn, ds, m, first, rs, rfl, hT, hv, sz, hs, qG, qN, qS⟩ := h
    have hu := hu_of hr
    refine ⟨_, (pss_cons (ps_expr (pe_meth (pv 0) C.cl ME_Table_check_name G_Table_check_name (hr.mono (by decide)) bM_Table_check_name .nil (passes_call (E := E) (takes_of rfl rfl rfl rfl) (fun _ _ _ _ h => h)) (pa_cons (pv 1) pa_nil)))
      (pss_cons (ps_if (pt_not (pt_val (pe_call G_is_below (hr.mono (by decide)) rfl D_is_below.g D_is_below.F.kp D_is_below.b .nil pass0 (pa_cons (pv 2) (pa_cons (pe_fld (pv 0) rfl) pa_nil))))) (pss_one (ps_raise rfl (takes_of rfl rfl rfl rfl) (pmk_oex E_BadNumber.ox E_BadNumber.ic E_BadNumber.ti E_BadNumber.G (hr.mono (by decide)) E_BadNumber.b .nil passL rfl E_BadNumber.k (pa_cons (pv 2) pa_nil)))) pss_nil)
      (pss_one (ps_ret (pe_ix (r := rIxL K) ix_list (pe_dget hu (pe_fld (pv 0) rfl) (pv 1) (fun _ _ => rfl)) (pv 2) (fun _ _ => rfl)))))), ?_⟩
    try simp (maxSteps := 1000000) only [tSeq, tIfS, tTest, tOp, tUn, tCB, tCons, tNil, tVar, tC, rI0, rI, rU, rEq, rNe, tRet, tRetN, tAsg, gName, gSub, tBM, tBM0, tNext, tB, tNot, tAnd, tOr, tIf, tCall, tDrop, tBreak, tCont, L2.start, tDGet, sDPut, tTup, tLst, tDNewK, tRevL, rCat, rAppend, rPop, rSetL, tAndV, tOrV, tNotV, tSl, tPart, tNoPart, tM1, gTup, gCons, gNil, cxK, cxnK, List.map_cons, List.map_nil, List.length_cons, List.length_nil, List.replicate, List.cons_append, List.nil_append, List.append_nil, List.set_cons_zero, List.set_cons_succ, List.getElem?_cons_zero, List.getElem?_cons_succ, Option.some.injEq, V.ref.injEq, V.int.injEq, V.str.injEq, V.bl.injEq, V.ty.injEq, exists_eq_left', exists_eq_left, exists_and_left, List.cons.injEq, and_true, true_and, sc_ii, sc_ss, sc_bb, sc_ni, sc_in, sc_is, sc_si, sc_nn, decide_true, decide_false, reduceCtorEq, Bool.false_eq_true, if_true, if_false, ite_true, ite_false, exists_const, eq_self, false_and, and_false, or_false, false_or, exists_false, Evl.rLenS, rSum, wipe, tYes, exists_eq, exists_eq', rIxL, rIxT, rIxS, exists_and_right, gt_iff_lt, not_true_eq_false, not_false_eq_true, Bool.not_true, Bool.not_false, decide_eq_true_eq, Nat.reduceSub, Nat.reduceAdd, List.append_assoc, tChain, tDIn, tDNotIn, sDDel, tAug, ipI, tFld, tMeth]
    obtain ⟨dx0, d0, ho0⟩ := hT.head
    refine ⟨dx0, _, ho0, rfl, o, v, dn, m, first, rs, rfl, hT, hv, sz, fun hh H1 k1 => ?_, fun hh e H' ne he k => qN hh e H' ne he k⟩
    have hT1 := hT.kp k1
    obtain ⟨z, rfl⟩ : ∃ z, dn = .str z := by
      cases dn <;> first | exact ⟨_, rfl⟩ | cases hh
    have hz : z ∈ rs.map (·.1) := by
      have h' : (nameS z && decide (z ∈ rs.map (·.1))) = true := hh
      rw [Bool.and_eq_true, decide_eq_true_eq] at h'
      exact h'.2
    obtain ⟨dx, d, kvs, a, xs, ho, hd, ev, ha, hl, cell⟩ := hT1.get hz
    cases hv with
    | str _ =>
    refine ⟨TC, dx, _, ho, C.cl, C.n1, _, rfl, u, ds, (m : Nat), rfl, hs.kp k1, ?_⟩
    cases hb : belowD (m : Nat) ds with
    | false =>
      try simp (maxSteps := 1000000) only [tSeq, tIfS, tTest, tOp, tUn, tCB, tCons, tNil, tVar, tC, rI0, rI, rU, rEq, rNe, tRet, tRetN, tAsg, gName, gSub, tBM, tBM0, tNext, tB, tNot, tAnd, tOr, tIf, tCall, tDrop, tBreak, tCont, L2.start, tDGet, sDPut, tTup, tLst, tDNewK, tRevL, rCat, rAppend, rPop, rSetL, tAndV, tOrV, tNotV, tSl, tPart, tNoPart, tM1, gTup, gCons, gNil, cxK, cxnK, List.map_cons, List.map_nil, List.length_cons, List.length_nil, List.replicate, List.cons_append, List.nil_append, List.append_nil, List.set_cons_zero, List.set_cons_succ, List.getElem?_cons_zero, List.getElem?_cons_succ, Option.some.injEq, V.ref.injEq, V.int.injEq, V.str.injEq, V.bl.injEq, V.ty.injEq, exists_eq_left', exists_eq_left, exists_and_left, List.cons.injEq, and_true, true_and, sc_ii, sc_ss, sc_bb, sc_ni, sc_in, sc_is, sc_si, sc_nn, decide_true, decide_false, reduceCtorEq, Bool.false_eq_true, if_true, if_false, ite_true, ite_false, exists_const, eq_self, false_and, and_false, or_false, false_or, exists_false, Evl.rLenS, rSum, wipe, tYes, exists_eq, exists_eq', rIxL, rIxT, rIxS, exists_and_right, gt_iff_lt, not_true_eq_false, not_false_eq_true, Bool.not_true, Bool.not_false, decide_eq_true_eq, Nat.reduceSub, Nat.reduceAdd, List.append_assoc, tChain, tDIn, tDNotIn, sDDel, tAug, ipI]
      exact ⟨u, rfl, err1_made (P := fun _ => True) True.intro fun e H' ne he k => qS hh hb e H' (k1.free0 ne) he (k1.trans k)⟩
    | true =>
      obtain ⟨i, rfl, i0, i1⟩ := belowD_int hb
      cases hs with
      | int _ =>
      obtain ⟨p, ep, hp, _⟩ := cell i i0 i1
      try simp (maxSteps := 1000000) only [tSeq, tIfS, tTest, tOp, tUn, tCB, tCons, tNil, tVar, tC, rI0, rI, rU, rEq, rNe, tRet, tRetN, tAsg, gName, gSub, tBM, tBM0, tNext, tB, tNot, tAnd, tOr, tIf, tCall, tDrop, tBreak, tCont, L2.start, tDGet, sDPut, tTup, tLst, tDNewK, tRevL, rCat, rAppend, rPop, rSetL, tAndV, tOrV, tNotV, tSl, tPart, tNoPart, tM1, gTup, gCons, gNil, cxK, cxnK, List.map_cons, List.map_nil, List.length_cons, List.length_nil, List.replicate, List.cons_append, List.nil_append, List.append_nil, List.set_cons_zero, List.set_cons_succ, List.getElem?_cons_zero, List.getElem?_cons_succ, Option.some.injEq, V.ref.injEq, V.int.injEq, V.str.injEq, V.bl.injEq, V.ty.injEq, exists_eq_left', exists_eq_left, exists_and_left, List.cons.injEq, and_true, true_and, sc_ii, sc_ss, sc_bb, sc_ni, sc_in, sc_is, sc_si, sc_nn, decide_true, decide_false, reduceCtorEq, Bool.false_eq_true, if_true, if_false, ite_true, ite_false, exists_const, eq_self, false_and, and_false, or_false, false_or, exists_false, Evl.rLenS, rSum, wipe, tYes, exists_eq, exists_eq', rIxL, rIxT, rIxS, exists_and_right, gt_iff_lt, not_true_eq_false, not_false_eq_true, Bool.not_true, Bool.not_false, decide_eq_true_eq, Nat.reduceSub, Nat.reduceAdd, List.append_assoc, tChain, tDIn, tDNotIn, sDDel, tAug, ipI]
      exact ⟨TC, dx, _, ho, C.cl, C.n3, .ref d, rfl, d, rfl, .ref a, .inl ⟨kvs, Sum.inr z, .inl hd, rfl, ev.symm⟩, a, rfl, xs, sq_l ha, .ref p, atI_of i0 ep, qG z i rfl rfl hh i0 i1 p _ hp k1⟩
def spTA (TC NO : Addr) : Sp := fun vs H Q E => ∃ (o l : Addr) (zs : List Str) (m : Nat) (first : Int) (rs : List (Str × PyData)), vs = [.ref o, .ref l] ∧ TabAt TC H o m first rs ∧ H l = some (.lst (zs.map V.str)) ∧ zs.length ≤ 1000 ∧ (∀ z ∈ zs, z.length ≤ 1000) ∧
  ((∀ z ∈ zs, z ∈ rs.map (·.1)) → ∀ (r : Addr) (H' : Hp), H r = none → H' r = some (.lst ((walkR rs first zs).map V.int)) → Kp [] H H' → Q (.ref r) H') ∧
  (∀ (i : Nat) (z : Str), zs[i]? = some z → hasD rs (.str z) = false → (∀ j y, j < i → zs[j]? = some y → hasD rs (.str y) = true) → ∀ (e : Addr) (H' : Hp), H e = none → H' e = some (.xd [("name", .str z)]) → Kp [] H H' → E (.ref NO) (some e) H')
def ChkIn (o l : Addr) (zs : List Str) (rs : List (Str × PyData)) (H : Hp) (i : Nat) (σ : L2.St) (H' : Hp) : Prop := ∃ c, σ = [some (.ref o), some (.ref l), c, none, none, none] ∧ Kp [] H H' ∧ ∀ j y, j < i → zs[j]? = some y → hasD rs (.str y) = true
def AnsIn (o l r : Addr) (zs : List Str) (first : Int) (rs : List (Str × PyData)) (H : Hp) (i : Nat) (σ : L2.St) (H' : Hp) : Prop := ∃ c x, σ = [some (.ref o), some (.ref l), c, some (.int (stateR rs first (zs.take i))), some (.ref r), x] ∧ H' r = some (.lst ((walkR rs first (zs.take i)).map V.int)) ∧ Kp [] H H' ∧ 0 ≤ stateR rs first (zs.take i) ∧ stateR rs first (zs.take i) < lenD (rs.headD ("", .none)).2
theorem walkR_snoc (rs : List (Str × PyData)) : ∀ (s : Int) (zs : List Str) (z : Str), walkR rs s (zs ++ [z]) = walkR rs s zs ++ [(cellOf rs z (stateR rs s zs)).1] ∧ stateR rs s (zs ++ [z]) = (cellOf rs z (stateR rs s zs)).2
  | s, [], z => ⟨rfl, rfl⟩
  | s, y :: ys, z => by
    obtain ⟨a, b⟩ := walkR_snoc rs (cellOf rs y s).2 ys z
    constructor
    · show (cellOf rs y s).1 :: walkR rs (cellOf rs y s).2 (ys ++ [z]) = _
      rw [a]; rfl
    · exact b
theorem walkR_len (rs : List (Str × PyData)) : ∀ (s : Int) (zs : List Str), (walkR rs s zs).length = zs.length
  | _, [] => rfl
  | s, z :: zs => by
    show (walkR rs _ zs).length + 1 = zs.length + 1
    rw [walkR_len]
theorem ok_Table_answers {f : Addr} {fd : FuncData} (F : Fun K "answers" "Table.answers" s_Table_answers f fd) (T : Bt mg tL t1 t2) {TC NO fN : Addr} {fdN : FuncData} (C : TbC K mg TC)
    (ME_Table_check_name : Meth K TC "check_name" fN) (bM_Table_check_name : Binds K fdN ["self", "name"] []) (G_Table_check_name : FnOk P w K mg base (L2.CX P w) 3 fN fdN ["self", "name"] (spTK TC NO)) : FnOk P w K mg base (L2.CX P w) 4 f fd ["self", "calls"] (spTA TC NO) := by
  refine F.okX sc_Table_answers (fun vs H Q E h => ?_) (fun cdv A outer s H vs Q E hr h => ?_)
  · obtain ⟨o, l, zs, m, first, rs, rfl, _⟩ := h
    rfl
  · obtain ⟨o, l, zs, m, first, rs, rfl, hT, hl, zl, zb, qG, qN⟩ := h
    have hu := hu_of hr
    refine ⟨_, (pss_cons (ps_for (passes_of rfl) rfl (pi_list (pv 1)) (pg_name (i := 2) sc_Table_answers.nd rfl (Or.inl rfl)) (pss_one (ps_expr (pe_meth (pv 0) C.cl ME_Table_check_name G_Table_check_name (hr.mono (by decide)) bM_Table_check_name .nil (passes_call (E := E) (takes_of rfl rfl rfl rfl) (fun _ _ _ _ h => h)) (pa_cons (pv 2) pa_nil)))))
      (pss_cons (ps_set (i := 3) sc_Table_answers.nd rfl (Or.inl rfl) (pe_fld (pv 0) rfl))
      (pss_cons (ps_set (i := 4) sc_Table_answers.nd rfl (Or.inl rfl) (pe_lst pa_nil))
      (pss_cons (ps_for (passes_of rfl) rfl (pi_list (pv 1)) (pg_name (i := 2) sc_Table_answers.nd rfl (Or.inl rfl)) (pss_cons (ps_asg (pe_ix (r := rIxL K) ix_list (pe_dget hu (pe_fld (pv 0) rfl) (pv 2) (fun _ _ => rfl)) (pv 3) (fun _ _ => rfl)) (pg_tup (n := 2) (by rfl) (pgs_cons (pg_name (i := 5) sc_Table_answers.nd rfl (Or.inl rfl)) (pgs_cons (pg_name (i := 3) sc_Table_answers.nd rfl (Or.inl rfl)) pgs_nil))))
      (pss_one (ps_expr (pe_bm PySem.F.plainAttrs_list PySem.F.slot_list_append PySem.F.type_list_append mt_append (pv 4) (pa_cons (pv 5) pa_nil))))))
      (pss_one (ps_ret (pv 4))))))), ?_⟩
    try simp (maxSteps := 1000000) only [tSeq, tIfS, tTest, tOp, tUn, tCB, tCons, tNil, tVar, tC, rI0, rI, rU, rEq, rNe, tRet, tRetN, tAsg, gName, gSub, tBM, tBM0, tNext, tB, tNot, tAnd, tOr, tIf, tCall, tDrop, tBreak, tCont, L2.start, tDGet, sDPut, tTup, tLst, tDNewK, tRevL, rCat, rAppend, rPop, rSetL, tAndV, tOrV, tNotV, tSl, tPart, tNoPart, tM1, gTup, gCons, gNil, cxK, cxnK, List.map_cons, List.map_nil, List.length_cons, List.length_nil, List.replicate, List.cons_append, List.nil_append, List.append_nil, List.set_cons_zero, List.set_cons_succ, List.getElem?_cons_zero, List.getElem?_cons_succ, Option.some.injEq, V.ref.injEq, V.int.injEq, V.str.injEq, V.bl.injEq, V.ty.injEq, exists_eq_left', exists_eq_left, exists_and_left, List.cons.injEq, and_true, true_and, sc_ii, sc_ss, sc_bb, sc_ni, sc_in, sc_is, sc_si, sc_nn, decide_true, decide_false, reduceCtorEq, Bool.false_eq_true, if_true, if_false, ite_true, ite_false, exists_const, eq_self, false_and, and_false, or_false, false_or, exists_false, Evl.rLenS, rSum, wipe, tYes, exists_eq, exists_eq', rIxL, rIxT, rIxS, exists_and_right, gt_iff_lt, not_true_eq_false, not_false_eq_true, Bool.not_true, Bool.not_false, decide_eq_true_eq, Nat.reduceSub, Nat.reduceAdd, List.append_assoc, tChain, tDIn, tDNotIn, sDDel, tAug, ipI, tFld, tMeth]
    have xl : ∀ {i : Nat} {x : V}, (zs.map V.str)[i]? = some x → ∃ z, zs[i]? = some z ∧ x = .str z := fun {i x} e => by
      rw [List.getElem?_map] at e
      cases ez : zs[i]? with
      | none => rw [ez] at e; cases e
      | some z => rw [ez] at e; cases e; exact ⟨z, rfl, rfl⟩
    refine ⟨.ref l, rfl, l, rfl, ⟨_, sq_l hl⟩, for_list (K := K) (a := l) (xs := zs.map V.str) (ChkIn o l zs rs H) ⟨_, rfl, Kp.refl _ _, fun j y hj => absurd hj (by omega)⟩ (fun i σ H' _ h => by obtain ⟨_, _, k, _⟩ := h; exact k.ls not0 (sq_l hl)) ?_ ?_⟩
    · rintro i x σ H1 hx ⟨c, rfl, k1, hg⟩
      obtain ⟨z, ez, rfl⟩ := xl hx
      try simp (maxSteps := 1000000) only [tSeq, tIfS, tTest, tOp, tUn, tCB, tCons, tNil, tVar, tC, rI0, rI, rU, rEq, rNe, tRet, tRetN, tAsg, gName, gSub, tBM, tBM0, tNext, tB, tNot, tAnd, tOr, tIf, tCall, tDrop, tBreak, tCont, L2.start, tDGet, sDPut, tTup, tLst, tDNewK, tRevL, rCat, rAppend, rPop, rSetL, tAndV, tOrV, tNotV, tSl, tPart, tNoPart, tM1, gTup, gCons, gNil, cxK, cxnK, List.map_cons, List.map_nil, List.length_cons, List.length_nil, List.replicate, List.cons_append, List.nil_append, List.append_nil, List.set_cons_zero, List.set_cons_succ, List.getElem?_cons_zero, List.getElem?_cons_succ, Option.some.injEq, V.ref.injEq, V.int.injEq, V.str.injEq, V.bl.injEq, V.ty.injEq, exists_eq_left', exists_eq_left, exists_and_left, List.cons.injEq, and_true, true_and, sc_ii, sc_ss, sc_bb, sc_ni, sc_in, sc_is, sc_si, sc_nn, decide_true, decide_false, reduceCtorEq, Bool.false_eq_true, if_true, if_false, ite_true, ite_false, exists_const, eq_self, false_and, and_false, or_false, false_or, exists_false, Evl.rLenS, rSum, wipe, tYes, exists_eq, exists_eq', rIxL, rIxT, rIxS, exists_and_right, gt_iff_lt, not_true_eq_false, not_false_eq_true, Bool.not_true, Bool.not_false, decide_eq_true_eq, Nat.reduceSub, Nat.reduceAdd, List.append_assoc, tChain, tDIn, tDNotIn, sDDel, tAug, ipI, tMeth]
      obtain ⟨dx0, d0, ho0⟩ := (hT.kp k1).head
      have szz : szD (.str z) = true := decide_eq_true (zb z (List.mem_of_getElem? ez))
      refine ⟨dx0, _, ho0, rfl, o, .str z, .str z, m, first, rs, rfl, hT.kp k1, .str z, szz, fun hh H2 k2 => ⟨_, rfl, k1.trans k2, fun j y hj ey => ?_⟩, fun hh e H' ne he k => qN i z ez hh hg e H' (k1.free0 ne) he (k1.trans k)⟩
      by_cases zj : j = i
      · subst zj; rw [ez] at ey; cases ey; exact hh
      · exact hg j y (by omega) ey
    · rintro σ H1 ⟨c, rfl, k1, hg⟩
      have hT1 := hT.kp k1
      have allN : ∀ z ∈ zs, z ∈ rs.map (·.1) := fun z hz => by
        obtain ⟨j, ej⟩ := List.getElem?_of_mem hz
        have hh := hg j z (by rw [List.length_map]; exact (List.getElem?_eq_some_iff.mp ej).1) ej
        have h' : (nameS z && decide (z ∈ rs.map (·.1))) = true := hh
        rw [Bool.and_eq_true, decide_eq_true_eq] at h'
        exact h'.2
      try simp (maxSteps := 1000000) only [tSeq, tIfS, tTest, tOp, tUn, tCB, tCons, tNil, tVar, tC, rI0, rI, rU, rEq, rNe, tRet, tRetN, tAsg, gName, gSub, tBM, tBM0, tNext, tB, tNot, tAnd, tOr, tIf, tCall, tDrop, tBreak, tCont, L2.start, tDGet, sDPut, tTup, tLst, tDNewK, tRevL, rCat, rAppend, rPop, rSetL, tAndV, tOrV, tNotV, tSl, tPart, tNoPart, tM1, gTup, gCons, gNil, cxK, cxnK, List.map_cons, List.map_nil, List.length_cons, List.length_nil, List.replicate, List.cons_append, List.nil_append, List.append_nil, List.set_cons_zero, List.set_cons_succ, List.getElem?_cons_zero, List.getElem?_cons_succ, Option.some.injEq, V.ref.injEq, V.int.injEq, V.str.injEq, V.bl.injEq, V.ty.injEq, exists_eq_left', exists_eq_left, exists_and_left, List.cons.injEq, and_true, true_and, sc_ii, sc_ss, sc_bb, sc_ni, sc_in, sc_is, sc_si, sc_nn, decide_true, decide_false, reduceCtorEq, Bool.false_eq_true, if_true, if_false, ite_true, ite_false, exists_const, eq_self, false_and, and_false, or_false, false_or, exists_false, Evl.rLenS, rSum, wipe, tYes, exists_eq, exists_eq', rIxL, rIxT, rIxS, exists_and_right, gt_iff_lt, not_true_eq_false, not_false_eq_true, Bool.not_true, Bool.not_false, decide_eq_true_eq, Nat.reduceSub, Nat.reduceAdd, List.append_assoc, tChain, tDIn, tDNotIn, sDDel, tAug, ipI, tFld]
      obtain ⟨dx0, d0, kvs0, ho0, hd0, hr0, nd0, rb0, em0, f00, f01⟩ := hT1
      refine ⟨TC, dx0, _, ho0, C.cl, C.n2, _, rfl, small (by decide), fun r nr => ?_⟩
      have nrH : H r = none := k1.free0 nr
      have k1r : Kp [] H (upd H1 r (.lst [])) := k1.trans (Kp.new nr)
      refine ⟨.ref l, rfl, l, rfl, ⟨_, sq_l (k1r _ _ not0 hl)⟩, for_list (K := K) (a := l) (xs := zs.map V.str) (AnsIn o l r zs first rs H) ⟨c, none, rfl, upd_same, k1r, f00, by rw [← em0]; exact f01⟩ (fun i σ H' _ h => by obtain ⟨_, _, _, _, k, _⟩ := h; exact k.ls not0 (sq_l hl)) ?_ ?_⟩
      · rintro i x σ H2 hx ⟨c, y, rfl, hr2, k2, s0, s1⟩
        obtain ⟨z, ez, rfl⟩ := xl hx
        try simp (maxSteps := 1000000) only [tSeq, tIfS, tTest, tOp, tUn, tCB, tCons, tNil, tVar, tC, rI0, rI, rU, rEq, rNe, tRet, tRetN, tAsg, gName, gSub, tBM, tBM0, tNext, tB, tNot, tAnd, tOr, tIf, tCall, tDrop, tBreak, tCont, L2.start, tDGet, sDPut, tTup, tLst, tDNewK, tRevL, rCat, rAppend, rPop, rSetL, tAndV, tOrV, tNotV, tSl, tPart, tNoPart, tM1, gTup, gCons, gNil, cxK, cxnK, List.map_cons, List.map_nil, List.length_cons, List.length_nil, List.replicate, List.cons_append, List.nil_append, List.append_nil, List.set_cons_zero, List.set_cons_succ, List.getElem?_cons_zero, List.getElem?_cons_succ, Option.some.injEq, V.ref.injEq, V.int.injEq, V.str.injEq, V.bl.injEq, V.ty.injEq, exists_eq_left', exists_eq_left, exists_and_left, List.cons.injEq, and_true, true_and, sc_ii, sc_ss, sc_bb, sc_ni, sc_in, sc_is, sc_si, sc_nn, decide_true, decide_false, reduceCtorEq, Bool.false_eq_true, if_true, if_false, ite_true, ite_false, exists_const, eq_self, false_and, and_false, or_false, false_or, exists_false, Evl.rLenS, rSum, wipe, tYes, exists_eq, exists_eq', rIxL, rIxT, rIxS, exists_and_right, gt_iff_lt, not_true_eq_false, not_false_eq_true, Bool.not_true, Bool.not_false, decide_eq_true_eq, Nat.reduceSub, Nat.reduceAdd, List.append_assoc, tChain, tDIn, tDNotIn, sDDel, tAug, ipI, tFld]
        obtain ⟨dx, d, kvs, a, xs, ho, hd, ev, ha, hl2, cell⟩ := (hT.kp k2).get (allN z (List.mem_of_getElem? ez))
        have s1' := s1
        rw [← em0] at s1'
        obtain ⟨p, ep, hp, c0, c1, d0, d1⟩ := cell _ s0 s1'
        refine ⟨TC, dx, _, ho, C.cl, C.n3, .ref d, rfl, d, rfl, .ref a, .inl ⟨kvs, Sum.inr z, .inl hd, rfl, ev.symm⟩, a, rfl, xs, sq_l ha, .ref p, atI_of s0 ep, ?_⟩
        have wl : ((walkR rs first (zs.take i)).map V.int).length ≤ 1000 := by
          rw [List.length_map, walkR_len, List.length_take]; omega
        have wz := walkR_snoc rs first (zs.take i) z
        refine ⟨p, rfl, _, sq_t hp, rfl, _, _, rfl, _, _, rfl, rfl, .inl ⟨rfl, _, sq_l hr2⟩, _, hr2, smallL (by omega), ?_⟩
        refine ⟨some (.str z), some (.int (cellOf rs z (stateR rs first (zs.take i))).1), ?_, ?_, k2.wr nrH, ?_⟩
        · rw [take_snoc ez, wz.2]
        · rw [take_snoc ez, wz.1, upd_same, List.map_append]; rfl
        · rw [take_snoc ez, wz.2, ← em0]
          exact ⟨d0, d1⟩
      · rintro σ H2 ⟨c, y, rfl, hr2, k2, s0, s1⟩
        rw [List.length_map, List.take_length] at hr2
        try simp (maxSteps := 1000000) only [tSeq, tIfS, tTest, tOp, tUn, tCB, tCons, tNil, tVar, tC, rI0, rI, rU, rEq, rNe, tRet, tRetN, tAsg, gName, gSub, tBM, tBM0, tNext, tB, tNot, tAnd, tOr, tIf, tCall, tDrop, tBreak, tCont, L2.start, tDGet, sDPut, tTup, tLst, tDNewK, tRevL, rCat, rAppend, rPop, rSetL, tAndV, tOrV, tNotV, tSl, tPart, tNoPart, tM1, gTup, gCons, gNil, cxK, cxnK, List.map_cons, List.map_nil, List.length_cons, List.length_nil, List.replicate, List.cons_append, List.nil_append, List.append_nil, List.set_cons_zero, List.set_cons_succ, List.getElem?_cons_zero, List.getElem?_cons_succ, Option.some.injEq, V.ref.injEq, V.int.injEq, V.str.injEq, V.bl.injEq, V.ty.injEq, exists_eq_left', exists_eq_left, exists_and_left, List.cons.injEq, and_true, true_and, sc_ii, sc_ss, sc_bb, sc_ni, sc_in, sc_is, sc_si, sc_nn, decide_true, decide_false, reduceCtorEq, Bool.false_eq_true, if_true, if_false, ite_true, ite_false, exists_const, eq_self, false_and, and_false, or_false, false_or, exists_false, Evl.rLenS, rSum, wipe, tYes, exists_eq, exists_eq', rIxL, rIxT, rIxS, exists_and_right, gt_iff_lt, not_true_eq_false, not_false_eq_true, Bool.not_true, Bool.not_false, decide_eq_true_eq, Nat.reduceSub, Nat.reduceAdd, List.append_assoc, tChain, tDIn, tDNotIn, sDDel, tAug, ipI]
        exact qG allN r H2 nrH hr2 k2
end
end My

set_option Elab.async false
set_option linter.all false
set_option maxRecDepth 100000
set_option maxHeartbeats 4000000
/-! what k14's texts tell of rows and tables -/
namespace My
open PySem L2 NdefX
def cellD (p : Int × Int) : PyData := .tuple [.int p.1, .int p.2]
def rowD2 (k : Nat) (f : Nat → Int × Int) : PyData := .list ((List.range k).map fun i => cellD (f i))
/-- cells as new tuples -/
def Cells (f : Nat → Int × Int) (xs : List V) (k : Nat) (H : Hp) : Prop := xs.length = k ∧ ∀ i, i < k → ∃ p, xs[i]? = some (.ref p) ∧ H p = some (.tup [.int (f i).1, .int (f i).2])
theorem Cells.kp {f : Nat → Int × Int} {xs : List V} {k : Nat} {H H' : Hp} (h : Cells f xs k H) (kp : Kp [] H H') : Cells f xs k H' :=
  ⟨h.1, fun s hs => by
    obtain ⟨p, e, hp⟩ := h.2 s hs
    exact ⟨p, e, kp _ _ not0 hp⟩⟩
theorem Cells.snoc {f : Nat → Int × Int} {xs : List V} {k : Nat} {H : Hp} {p : Addr} (h : Cells f xs k H) (hp : H p = some (.tup [.int (f k).1, .int (f k).2])) : Cells f (xs ++ [.ref p]) (k + 1) H := by
  refine ⟨by rw [List.length_append, h.1]; rfl, fun s hs => ?_⟩
  by_cases z : s = k
  · subst z
    exact ⟨p, by rw [List.getElem?_append_right (by rw [h.1]; exact Nat.le_refl _), h.1, Nat.sub_self]; rfl, hp⟩
  · obtain ⟨p', e', hp'⟩ := h.2 s (by omega)
    exact ⟨p', by rw [List.getElem?_append_left (by rw [h.1]; omega)]; exact e', hp'⟩
theorem Cells.putL {f : Nat → Int × Int} {xs ys zs : List V} {k : Nat} {H : Hp} {D : Addr} (h : Cells f xs k H) (hD : H D = some (.lst ys)) : Cells f xs k (upd H D (.lst zs)) :=
  ⟨h.1, fun s hs => by
    obtain ⟨p, e, hp⟩ := h.2 s hs
    have ne : p ≠ D := fun z => by rw [z, hD] at hp; cases hp
    exact ⟨p, e, by rw [upd_ne ne]; exact hp⟩⟩
theorem Cells.dq {f : Nat → Int × Int} {H : Hp} : ∀ {k : Nat} {xs : List V}, Cells f xs k H → DqAll H xs ((List.range k).map fun i => cellD (f i))
  | 0, [], _ => .nil
  | 0, _ :: _, h => by cases h.1
  | k + 1, xs, h => by
    obtain ⟨p, e, hp⟩ := h.2 k (by omega)
    have hx : xs = xs.take k ++ [.ref p] := by rw [← take_snoc e, List.take_of_length_le (Nat.le_of_eq h.1)]
    have ih : Cells f (xs.take k) k H := ⟨by rw [List.length_take, h.1]; omega, fun i hi => by
      obtain ⟨p', e', hp'⟩ := h.2 i (by omega)
      exact ⟨p', by rw [List.getElem?_take_of_lt hi]; exact e', hp'⟩⟩
    rw [List.range_succ, List.map_append, hx]
    have app : ∀ {vs us : List V} {ds es : List PyData}, DqAll H vs ds → DqAll H us es → DqAll H (vs ++ us) (ds ++ es) := by
      intro vs us ds es h1 h2
      induction vs generalizing ds with
      | nil => cases h1; exact h2
      | cons v r ih =>
        cases h1 with
        | cons a b => exact .cons a (ih b)
    exact app ih.dq (.cons (.tup hp (.cons (.int _) (.cons (.int _) .nil))) .nil)
def namesOf (rs : List (Str × PyData)) : List Str := rs.map (·.1)
theorem rowsBad_of {rs : List (Str × PyData)} {M : Nat} (h1 : rs ≠ []) (h2 : rs.length ≤ 6) (hM : M = lenD (rs.headD ("", .none)).2) (h3 : ∀ q ∈ rs, goodR M q = true) : rowsBad rs = none := by
  cases rs with
  | nil => exact absurd rfl h1
  | cons p r =>
    show (if 7 ≤ (p :: r).length then some ("" : Str) else ((p :: r).find? fun q => !goodR (lenD p.2) q).map (·.1)) = none
    rw [if_neg (by omega)]
    have : ((p :: r).find? fun q => !goodR (lenD p.2) q) = none := by
      rw [List.find?_eq_none]
      intro q hq
      have hM' : M = lenD p.2 := hM
      have := h3 q hq
      rw [hM'] at this
      simp [this]
    rw [this]; rfl
def CellOk (rs : List (Str × PyData)) (m : Nat) : Prop := ∀ z ∈ namesOf rs, ∀ s : Nat, s < m → 0 ≤ (cellOf rs z s).1 ∧ (cellOf rs z s).1 < 10 ∧ 0 ≤ (cellOf rs z s).2 ∧ (cellOf rs z s).2 < m
theorem TabAt.cells {TC : Addr} {H : Hp} {o : Addr} {m : Nat} {first : Int} {rs : List (Str × PyData)} (h : TabAt TC H o m first rs) : CellOk rs m := fun z hz s hs => by
  obtain ⟨_, _, _, _, _, _, _, _, _, _, c⟩ := h.get hz
  obtain ⟨p, _, _, r⟩ := c s (by omega) (by omega)
  exact r
theorem TabAt.bnd {TC : Addr} {H : Hp} {o : Addr} {m : Nat} {first : Int} {rs : List (Str × PyData)} (h : TabAt TC H o m first rs) : rs ≠ [] ∧ rs.length ≤ 6 ∧ (∀ z ∈ namesOf rs, nameS z = true) ∧ 1 ≤ m ∧ m ≤ 100 ∧ 0 ≤ first ∧ first < m ∧ (namesOf rs).Nodup := by
  obtain ⟨dx, d, kvs, ho, hd, hr, nd, rb, em, f0, f1⟩ := h
  have g := rowsBad_none rb
  refine ⟨g.1, g.2.1, fun z hz => ?_, by omega, ?_, f0, f1, nd_names hr.keys nd⟩
  · obtain ⟨⟨z', dd⟩, hm, rfl⟩ := List.mem_map.mp hz
    exact (goodR_row (g.2.2 _ hm)).1
  · cases rs with
    | nil => exact absurd rfl g.1
    | cons p r =>
      obtain ⟨p1, p2⟩ := p
      obtain ⟨_, ds, e, hrow, hl⟩ := goodR_row (g.2.2 (p1, p2) (by simp))
      subst e
      have h' : (decide (1 ≤ ds.length) && (decide (ds.length ≤ 100) && ds.all (pairD ds.length))) = true := hrow
      rw [Bool.and_eq_true, Bool.and_eq_true, decide_eq_true_eq, decide_eq_true_eq] at h'
      have e2 : m = ds.length := em
      omega
theorem good_side {k : Nat} {z : Str} {f : Nat → Int × Int} (hz : nameS z = true) (k1 : 1 ≤ k) (k2 : k ≤ 100) (hf : ∀ i, i < k → 0 ≤ (f i).1 ∧ (f i).1 < 10 ∧ 0 ≤ (f i).2 ∧ (f i).2 < k) : goodR k (z, rowD2 k f) = true := by
  have hl : ((List.range k).map fun i => cellD (f i)).length = k := by simp
  unfold goodR rowD2
  have e2 : lenD (.list ((List.range k).map fun i => cellD (f i))) = k := hl
  have e3 : rowD (.list ((List.range k).map fun i => cellD (f i))) = true := by
    show (decide (1 ≤ ((List.range k).map fun i => cellD (f i)).length) && (decide (((List.range k).map fun i => cellD (f i)).length ≤ 100) && ((List.range k).map fun i => cellD (f i)).all (pairD ((List.range k).map fun i => cellD (f i)).length))) = true
    rw [hl, decide_eq_true k1, decide_eq_true k2, Bool.true_and, Bool.true_and, List.all_eq_true]
    intro d hd
    obtain ⟨i, hi, rfl⟩ := List.mem_map.mp hd
    obtain ⟨a, b, c, e⟩ := hf i (List.mem_range.mp hi)
    show ((decide (0 ≤ (f i).1) && decide ((f i).1 < 10)) && (decide (0 ≤ (f i).2) && decide ((f i).2 < k))) = true
    rw [decide_eq_true a, decide_eq_true b, decide_eq_true c, decide_eq_true e]; rfl
  show (nameS z && (rowD _ && lenD _ == k)) = true
  rw [hz, e3, e2]
  simp
theorem Cells.kpN {f : Nat → Int × Int} {xs : List V} {k : Nat} {H H' : Hp} {S : List Addr} (h : Cells f xs k H) (kp : Kp S H H') (hS : ∀ a ∈ S, ∀ xs, H a ≠ some (.tup xs) ∧ H a ≠ some (.lst xs)) : Cells f xs k H' :=
  ⟨h.1, fun s hs => by
    obtain ⟨p, e, hp⟩ := h.2 s hs
    exact ⟨p, e, kp _ _ (fun m => (hS _ m _).1 hp) hp⟩⟩
theorem dk_no {H : Hp} {d : Addr} {kv : List (Key × V)} (e : H d = some (.dK kv)) : ∀ a ∈ [d], ∀ xs, H a ≠ some (.tup xs) ∧ H a ≠ some (.lst xs) := fun a m xs => by
  rw [List.mem_singleton.mp m, e]
  exact ⟨fun z => (by cases z), fun z => (by cases z)⟩
theorem sz_row {k : Nat} {f : Nat → Int × Int} : szD (rowD2 k f) = true := by
  have : ∀ ds : List PyData, (∀ d ∈ ds, szD d = true) → szAll ds = true := by
    intro ds h
    induction ds with
    | nil => rfl
    | cons d r ih =>
      show (szD d && szAll r) = true
      rw [h d List.mem_cons_self, ih fun x hx => h x (List.mem_cons_of_mem _ hx)]; rfl
  refine this _ fun d hd => ?_
  obtain ⟨i, _, rfl⟩ := List.mem_map.mp hd
  rfl
/-- at d a dict of rows of new tuples -/
def RwAt (H : Hp) (d : Addr) (zs : List Str) (m : Nat) (c : Str → Nat → Int × Int) : Prop := ∃ kvs : List (Key × V), H d = some (.dK kvs) ∧ kvs.length = zs.length ∧ ∀ (i : Nat) (z : Str), zs[i]? = some z → ∃ l xs, kvs[i]? = some (Sum.inr z, .ref l) ∧ H l = some (.lst xs) ∧ Cells (c z) xs m H
theorem RwAt.kp {H H' : Hp} {d : Addr} {zs : List Str} {m : Nat} {c : Str → Nat → Int × Int} (h : RwAt H d zs m c) (k : Kp [] H H') : RwAt H' d zs m c := by
  obtain ⟨kvs, hd, hl, hv⟩ := h
  refine ⟨kvs, k _ _ not0 hd, hl, fun i z e => ?_⟩
  obtain ⟨l, xs, a, b, cc⟩ := hv i z e
  exact ⟨l, xs, a, k _ _ not0 b, cc.kp k⟩
theorem RwAt.keys {kvs : List (Key × V)} {zs : List Str} {P : Nat → Str → V → Prop} (hl : kvs.length = zs.length) (h : ∀ (i : Nat) (z : Str), zs[i]? = some z → ∃ v, kvs[i]? = some (Sum.inr z, v) ∧ P i z v) : kvs.map (·.1) = zs.map (fun z => (Sum.inr z : Key)) := by
  refine List.ext_getElem? fun i => ?_
  rw [List.getElem?_map, List.getElem?_map]
  cases e : zs[i]? with
  | none =>
    have : kvs[i]? = none := by
      rw [List.getElem?_eq_none_iff] at e ⊢
      omega
    rw [this]; rfl
  | some z =>
    obtain ⟨v, ev, _⟩ := h i z e
    rw [ev]; rfl
/-- one row more -/
theorem RwAt.put {H H2 : Hp} {d l : Addr} {zs : List Str} {m : Nat} {c : Str → Nat → Int × Int} {z : Str} {xs : List V} (h : RwAt H d zs m c) (k : Kp [] H H2) (hz : z ∉ zs) (hl : H2 l = some (.lst xs)) (hc : Cells (c z) xs m H2) :
    ∃ kvs, H2 d = some (.dK kvs) ∧ kvs.length = zs.length ∧ putK kvs (Sum.inr z) (.ref l) = kvs ++ [(Sum.inr z, .ref l)] ∧ RwAt (upd H2 d (.dK (kvs ++ [(Sum.inr z, .ref l)]))) d (zs ++ [z]) m c := by
  obtain ⟨kvs, hd, hlen, hv⟩ := h
  have hd2 := k _ _ not0 hd
  have kw : Kp [d] H2 (upd H2 d (.dK (kvs ++ [(Sum.inr z, .ref l)]))) := (Kp.refl [d] _).put List.mem_cons_self
  refine ⟨kvs, hd2, hlen, putK_new _ (valV_fresh ?_), _, upd_same, by simp [hlen], fun i y e => ?_⟩
  · rw [RwAt.keys (P := fun _ _ _ => True) hlen fun i z e => by obtain ⟨l, xs, a, _⟩ := hv i z e; exact ⟨_, a, True.intro⟩]
    intro hm
    obtain ⟨z', hz', e⟩ := List.mem_map.mp hm
    cases e
    exact hz hz'
  · rcases Nat.lt_trichotomy i zs.length with w | w | w
    · rw [List.getElem?_append_left w] at e
      obtain ⟨l', xs', a, b, cc⟩ := hv i y e
      have hb := k _ _ not0 b
      exact ⟨l', xs', by rw [List.getElem?_append_left (by omega)]; exact a, kw _ _ (fun m => (dk_no hd2 _ m _).2 hb) hb, (cc.kp k).kpN kw (dk_no hd2)⟩
    · subst w
      rw [List.getElem?_append_right (Nat.le_refl _), Nat.sub_self] at e
      cases e
      exact ⟨l, xs, by rw [← hlen, List.getElem?_append_right (Nat.le_refl _), Nat.sub_self]; rfl, kw _ _ (fun m => (dk_no hd2 _ m _).2 hl) hl, hc.kpN kw (dk_no hd2)⟩
    · rw [List.getElem?_append_right (by omega), List.getElem?_eq_none (by simp; omega)] at e
      cases e
theorem RwAt.get {H : Hp} {d : Addr} {zs : List Str} {m : Nat} {c : Str → Nat → Int × Int} (h : RwAt H d zs m c) (nd : zs.Nodup) {z : Str} (hz : z ∈ zs) : ∃ kvs l xs, H d = some (.dK kvs) ∧ valV kvs (Sum.inr z) = some (.ref l) ∧ H l = some (.lst xs) ∧ Cells (c z) xs m H := by
  obtain ⟨kvs, hd, hlen, hv⟩ := h
  obtain ⟨i, e⟩ := List.getElem?_of_mem hz
  obtain ⟨l, xs, a, b, cc⟩ := hv i z e
  refine ⟨kvs, l, xs, hd, valV_mem ?_ (List.mem_of_getElem? a), b, cc⟩
  rw [RwAt.keys (P := fun _ _ _ => True) hlen fun i z e => by obtain ⟨l, xs, a, _⟩ := hv i z e; exact ⟨_, a, True.intro⟩]
  exact List.Pairwise.map (R := fun a b => a ≠ b) _ (fun a b h e => h (by cases e; rfl)) nd
def CellB (zs : List Str) (m : Nat) (most : Int) (c : Str → Nat → Int × Int) : Prop := ∀ z ∈ zs, ∀ s, s < m → (0 ≤ (c z s).1 ∧ (c z s).1 < most) ∧ 0 ≤ (c z s).2 ∧ (c z s).2 < m
/-- the table at t tells the rows c -/
def TabIs (TC : Addr) (H : Hp) (t : Addr) (zs : List Str) (m : Nat) (start : Int) (c : Str → Nat → Int × Int) : Prop := ∃ rs, TabAt TC H t m start rs ∧ namesOf rs = zs ∧ ∀ z ∈ zs, ∀ s : Nat, s < m → cellOf rs z s = c z s
def walkC (c : Str → Nat → Int × Int) : Int → List Str → List Int
  | _, [] => []
  | s, z :: zs => (c z s.toNat).1 :: walkC c (c z s.toNat).2 zs
def stateC (c : Str → Nat → Int × Int) : Int → List Str → Int
  | s, [] => s
  | s, z :: zs => stateC c (c z s.toNat).2 zs
theorem walkC_snoc (c : Str → Nat → Int × Int) : ∀ (s : Int) (zs : List Str) (z : Str), walkC c s (zs ++ [z]) = walkC c s zs ++ [(c z (stateC c s zs).toNat).1] ∧ stateC c s (zs ++ [z]) = (c z (stateC c s zs).toNat).2
  | s, [], z => ⟨rfl, rfl⟩
  | s, y :: ys, z => by
    obtain ⟨a, b⟩ := walkC_snoc c (c y s.toNat).2 ys z
    constructor
    · show (c y s.toNat).1 :: walkC c (c y s.toNat).2 (ys ++ [z]) = _
      rw [a]; rfl
    · exact b
theorem walkC_len (c : Str → Nat → Int × Int) : ∀ (s : Int) (zs : List Str), (walkC c s zs).length = zs.length
  | _, [] => rfl
  | s, z :: zs => by
    show (walkC c _ zs).length + 1 = zs.length + 1
    rw [walkC_len]
theorem stateC_ok {zs : List Str} {m : Nat} {most : Int} {c : Str → Nat → Int × Int} (h : CellB zs m most c) : ∀ {cs : List Str} {s : Int}, (∀ z ∈ cs, z ∈ zs) → 0 ≤ s → s < m → 0 ≤ stateC c s cs ∧ stateC c s cs < m
  | [], s, _, s0, s1 => ⟨s0, s1⟩
  | z :: cs, s, hz, s0, s1 => by
    have := (h z (hz z List.mem_cons_self) s.toNat (by omega)).2
    exact stateC_ok (cs := cs) (s := (c z s.toNat).2) h (fun y hy => hz y (List.mem_cons_of_mem _ hy)) this.1 this.2
theorem walk_same {rs : List (Str × PyData)} {zs : List Str} {m : Nat} {most : Int} {c : Str → Nat → Int × Int} (h : CellB zs m most c) (e : ∀ z ∈ zs, ∀ s : Nat, s < m → cellOf rs z s = c z s) : ∀ {cs : List Str} {s : Int}, (∀ z ∈ cs, z ∈ zs) → 0 ≤ s → s < m → walkR rs s cs = walkC c s cs
  | [], s, _, _, _ => rfl
  | z :: cs, s, hz, s0, s1 => by
    have z0 := hz z List.mem_cons_self
    have e1 := e z z0 s.toNat (by omega)
    rw [Int.toNat_of_nonneg s0] at e1
    have b := (h z z0 s.toNat (by omega)).2
    show (cellOf rs z s).1 :: walkR rs (cellOf rs z s).2 cs = (c z s.toNat).1 :: walkC c (c z s.toNat).2 cs
    rw [e1, walk_same (cs := cs) h e (fun y hy => hz y (List.mem_cons_of_mem _ hy)) b.1 b.2]
theorem pick_of {zs : List Str} {i : Int} (h0 : 0 ≤ i) (h1 : i < (zs.length : Nat)) : ∃ z, z ∈ zs ∧ atI (zs.map V.str) i = some (.str z) := by
  have hi : i.toNat < zs.length := by omega
  refine ⟨zs[i.toNat], List.getElem_mem _, atI_of h0 ?_⟩
  rw [List.getElem?_map, List.getElem?_eq_getElem hi]; rfl
def rowsR (zs : List Str) (m : Nat) (c : Str → Nat → Int × Int) : List (Str × PyData) := zs.map fun z => (z, rowD2 m (c z))
theorem names_rowsR {zs : List Str} {m : Nat} {c : Str → Nat → Int × Int} : namesOf (rowsR zs m c) = zs := by
  unfold namesOf rowsR
  rw [List.map_map]
  exact (List.map_congr_left fun z _ => rfl).trans (List.map_id zs)
theorem name8 {x : Str} (hx : nameS x = true) : x.length ≤ 1000 := by
  have h8 := hx
  unfold nameS at h8
  rw [Bool.and_eq_true, Bool.and_eq_true, decide_eq_true_eq, decide_eq_true_eq] at h8
  omega
theorem RwAt.rows {H : Hp} {d : Addr} {zs : List Str} {m : Nat} {c : Str → Nat → Int × Int} (h : RwAt H d zs m c) (hb : m ≤ 1000) (nm : ∀ z ∈ zs, nameS z = true) : ∃ kvs, H d = some (.dK kvs) ∧ RowsD H kvs (rowsR zs m c) ∧ kvs.map (·.1) = zs.map (fun z => (Sum.inr z : Key)) := by
  obtain ⟨kvs, hd, hl, hv⟩ := h
  refine ⟨kvs, hd, ⟨by unfold rowsR; rw [hl, List.length_map], fun i k v e => ?_⟩, ?_⟩
  · have hi : i < zs.length := by rw [← hl]; exact (List.getElem?_eq_some_iff.mp e).1
    obtain ⟨l, xs, e2, hl2, hc⟩ := hv i zs[i] (List.getElem?_eq_getElem hi)
    rw [e] at e2
    cases e2
    exact ⟨zs[i], rowD2 m (c zs[i]), rfl, by unfold rowsR; rw [List.getElem?_map, List.getElem?_eq_getElem hi]; rfl, Dq.lst hl2 hc.dq, sz_row, fun ds e => by cases e; simpa using hb, name8 (nm _ (List.getElem_mem _))⟩
  · exact RwAt.keys (P := fun _ _ _ => True) hl fun i z e => by
      obtain ⟨l, xs, e2, _⟩ := hv i z e
      exact ⟨_, e2, True.intro⟩
theorem cellRow {A : List (Str × PyData)} {k : Nat} {f : Nat → Int × Int} {z : Str} (h : A.find? (fun p => decide (p.1 = z)) = some (z, rowD2 k f)) {i : Nat} (hi : i < k) : cellOf A z (i : Nat) = f i := by
  unfold cellOf rowOf
  rw [h]
  show ((((List.range k).map fun i => cellD (f i)).map pairI).getD (Int.toNat (i : Nat)) (0, 0)) = f i
  rw [Int.toNat_natCast, List.map_map, List.getD_eq_getElem?_getD, List.getElem?_map, List.getElem?_range hi]
  rfl
theorem find_rowsR {zs : List Str} {m : Nat} {c : Str → Nat → Int × Int} : ∀ {z : Str}, z ∈ zs → (rowsR zs m c).find? (fun p => decide (p.1 = z)) = some (z, rowD2 m (c z)) := by
  induction zs with
  | nil => intro z h; cases h
  | cons y r ih =>
    intro z h
    show ((y, rowD2 m (c y)) :: rowsR r m c).find? _ = _
    by_cases e : y = z
    · rw [List.find?_cons_of_pos (by exact decide_eq_true e), e]
    · rw [List.find?_cons_of_neg (by simpa using e)]
      rcases List.mem_cons.mp h with h | h
      · exact absurd h.symm e
      · exact ih h
theorem good_rowsR {zs : List Str} {m : Nat} {c : Str → Nat → Int × Int} (hb : CellB zs m 10 c) (zne : zs ≠ []) (z6 : zs.length ≤ 6) (nm : ∀ z ∈ zs, nameS z = true) (m1 : 1 ≤ m) (m100 : m ≤ 100) : rowsBad (rowsR zs m c) = none ∧ lenD ((rowsR zs m c).headD ("", .none)).2 = m := by
  have ln : lenD ((rowsR zs m c).headD ("", .none)).2 = m := by
    cases zs with
    | nil => exact absurd rfl zne
    | cons z r => simp [rowsR, rowD2, lenD]
  refine ⟨rowsBad_of (M := m) (by unfold rowsR; simpa using zne) (by unfold rowsR; simpa using z6) ln.symm fun q hq => ?_, ln⟩
  unfold rowsR at hq
  obtain ⟨z, hz, rfl⟩ := List.mem_map.mp hq
  refine good_side (nm z hz) m1 m100 fun i hi => ?_
  obtain ⟨⟨a, b⟩, c1, d1⟩ := hb z hz i hi
  exact ⟨a, b, c1, d1⟩
theorem mk_tab {TC BT t dt d : Addr} {H2 : Hp} {zs : List Str} {m : Nat} {c : Str → Nat → Int × Int} {st : Int} {Q : VK} {E : XK} (hR : RwAt H2 d zs m c) (hb : CellB zs m 10 c) (nd : zs.Nodup) (zne : zs ≠ []) (z6 : zs.length ≤ 6) (nm : ∀ z ∈ zs, nameS z = true) (m1 : 1 ≤ m) (m100 : m ≤ 100) (s0 : 0 ≤ st) (s1 : st < m)
    (nt : H2 t = none) (ndt : H2 dt = none) (ne : t ≠ dt) (q : ∀ H3, TabIs TC H3 t zs m st c → Kp [] H2 H3 → Q .non H3) : spTI TC BT [.ref t, .ref d, .int st] (upd (upd H2 dt (.own t)) t (.ins TC dt [])) Q E := by
  have k3 : Kp [] H2 (upd (upd H2 dt (.own t)) t (.ins TC dt [])) := (Kp.new ndt).trans (Kp.new (by rw [upd_ne ne]; exact nt))
  obtain ⟨kvs, hd, hrs, hk⟩ := hR.rows (by omega) nm
  obtain ⟨rb, ln⟩ := good_rowsR hb zne z6 nm m1 m100
  have ndk : (kvs.map (·.1)).Nodup := by
    rw [hk]
    exact List.pairwise_map.mpr (nd.imp fun h e => h (by cases e; rfl))
  have kl : kvs.length ≤ 1000 := by
    have := congrArg List.length hk
    rw [List.length_map, List.length_map] at this
    omega
  refine ⟨t, dt, d, .int st, .int st, kvs, _, rfl, upd_same, k3 _ _ not0 hd, hrs.kp k3, ndk, kl, .int _, fun _ i ei i0 i1 H3 hT3 k4 => ?_, fun n hbad => ?_⟩
  · cases ei
    rw [ln] at hT3
    refine q H3 ⟨_, hT3, names_rowsR, fun z hz s hs => cellRow (find_rowsR hz) hs⟩ fun a o _ ea => k4 a o (not1 fun w => by rw [w, nt] at ea; cases ea) (k3 _ _ not0 ea)
  · exfalso
    rcases hbad with h | ⟨_, h, _⟩
    · rw [rb] at h; cases h
    · rw [ln] at h
      have : (decide (0 ≤ st) && decide (st < (m : Nat))) = false := h
      rw [decide_eq_true s0, decide_eq_true s1] at this
      cases this
end My

set_option Elab.async false
set_option linter.all false
set_option maxRecDepth 100000
set_option maxHeartbeats 4000000
namespace My
open PySem L2 NdefX StX
theorem _root_.L2.FnOk.toR {P : Program} {w : World} {K : PySem.W.Frag} {mg : Str → Option Value} {base : Heap} {CX : CXT} {k : Nat} {f : Addr} {fd : FuncData} {ps : List Str} {sp : Sp} (F : FnOk P w K mg base CX k f fd ps sp) (hb : Binds K fd ps []) : FnR P w K mg base CX k f sp :=
  fun A outer s H us vs Q E hr e0 r h => by
    have KX : K.In s.heap := e0.mod.kin.keeps fun b o e => (e0.bs b o e).1
    have hl : us.length = ps.length := by rw [← r.length]; exact F.len _ _ _ _ h
    have z := hb s us KX (by rw [List.append_nil]; exact hl)
    rw [List.append_nil] at z
    exact F.run A outer s H ⟨us, []⟩ us vs Q E hr e0 z r h
theorem noneB {H H1 : Hp} {e : Addr} (k : Kp [] H H1) (n : H1 e = none) : H e = none := by
  cases h : H e with
  | none => rfl
  | some x => rw [k _ _ not0 h] at n; cases n
theorem nodup_lenP {α : Type} [DecidableEq α] : ∀ {l m : List α}, l.Nodup → (∀ x ∈ l, x ∈ m) → l.length ≤ m.length
  | [], _, _, _ => Nat.zero_le _
  | x :: l, m, h, s => by
    rw [List.nodup_cons] at h
    have hx := s x (by simp)
    have ih := nodup_lenP (l := l) (m := m.erase x) h.2 fun y hy => (List.mem_erase_of_ne (fun e => h.1 (by rw [← e]; exact hy))).mpr (s y (by simp [hy]))
    rw [List.length_erase_of_mem hx] at ih
    have : 0 < m.length := List.length_pos_of_mem hx
    rw [List.length_cons]; omega
theorem forLD {K : PySem.W.Frag} {te : TE} {g : TG} {tb : TS} {D : Ends} {σ : L2.St} {H : Hp} (Pa : Addr → Hp → Prop) (ht : ∀ R : VK, (∀ a H1, Pa a H1 → R (.ref a) H1) → te σ H R) (h : ∀ a H1, Pa a H1 → tFor (iList K (fun _ _ q => q (.ref a) H1)) g tb D σ H1) : tFor (iList K te) g tb D σ H :=
  ht _ fun a H1 p => h a H1 p
def keyI (x : Nat) : Key := Sum.inl (x : Int)
theorem snocInd {α : Type} {p : List α → Prop} (h0 : p []) (h1 : ∀ l x, p l → p (l ++ [x])) (l : List α) : p l := by
  have h : ∀ l : List α, p l.reverse := fun l => by
    induction l with
    | nil => exact h0
    | cons x r ih => rw [List.reverse_cons]; exact h1 _ _ ih
  rw [← List.reverse_reverse l]
  exact h _
theorem depth_pairs {α : Type} {a b : α → Int} : ∀ {l : List α}, NestedKey.depthAll (l.map fun z => .tup [.num (a z), .num (b z)]) ≤ 1
  | [] => Nat.zero_le _
  | z :: l => by
    have := depth_pairs (a := a) (b := b) (l := l)
    rw [List.map_cons]
    simp only [NestedKey.depthAll, NestedKey.depth]
    omega
theorem forRg {ta : TA} {g : TG} {tb : TS} {D : Ends} {σ : L2.St} {H : Hp} (m : Nat) (Pv : Nat → L2.St → Hp → Prop) (ht : ∀ R : List V → Hp → Prop, R [.int (m : Nat)] H → ta σ H R) (h1 : -(2 ^ 62) ≤ (m : Int)) (h2 : (m : Int) < 2 ^ 62) (h0 : Pv 0 σ H)
    (step : ∀ j σ H, j < m → Pv j σ H → g (.int (j : Nat)) σ H fun σ2 H2 => tb { D with nx := Pv (j + 1), ct := Pv (j + 1), bk := D.nx } σ2 H2) (fin : ∀ σ H, Pv m σ H → D.nx σ H) : tFor (iRng1 ta) g tb D σ H :=
  ht _ ⟨m, rfl, h1, h2, for_range Pv h0 (fun i σ' H' hi p => by rw [Int.zero_add]; exact step i σ' H' (by omega) p) (by rw [Int.toNat_natCast]; exact fin)⟩
theorem lcL {K : PySem.W.Frag} {te : TE} {g : TG} {tt : TT} {tb : TE} {vs : List Nat} {σ : L2.St} {H : Hp} {Q : VK} (Pa : Addr → Hp → Prop) (ht : ∀ R : VK, (∀ a H1, Pa a H1 → R (.ref a) H1) → te σ H R) (h : ∀ a H1, Pa a H1 → tLc (iList K (fun _ _ q => q (.ref a) H1)) g tt tb vs σ H1 Q) : tLc (iList K te) g tt tb vs σ H Q :=
  ht _ fun a H1 p => h a H1 p
theorem dn_kp {P : Program} {w : World} {H H' : Hp} {d : Addr} {kvs : List (NestedKey × V)} (h : DnAt P w H d kvs) (k : Kp [] H H') : DnAt P w H' d kvs := by
  rcases h with ⟨a, b⟩ | ⟨xs, a, b, c⟩
  · exact .inl ⟨k _ _ not0 a, b⟩
  · exact .inr ⟨xs, k _ _ not0 a, b, fun x hx => ⟨(c x hx).1.tp fun b ys e => k _ _ not0 e, (c x hx).2⟩⟩
theorem map_getD {α : Type} {l : List Str} {g : Str → α} : l.map g = (List.range l.length).map fun i => g (l.getD i "") := by
  refine List.ext_getElem? fun i => ?_
  rw [List.getElem?_map, List.getElem?_map]
  by_cases h : i < l.length
  · rw [List.getElem?_eq_getElem h, List.getElem?_range h]
    show some (g l[i]) = some (g (l.getD i ""))
    rw [List.getD_eq_getElem?_getD, List.getElem?_eq_getElem h]
    rfl
  · rw [List.getElem?_eq_none (by omega), List.getElem?_eq_none (by rw [List.length_range]; omega)]
    rfl
theorem nkAll_app {H : Hp} : ∀ {vs us : List V} {ks js : List NestedKey}, NkAll H vs ks → NkAll H us js → NkAll H (vs ++ us) (ks ++ js)
  | _, _, _, _, .nil, h => h
  | _, _, _, _, .cons a t, h => .cons a (nkAll_app t h)
theorem nk_cells {f : Nat → Int × Int} {H : Hp} : ∀ {k : Nat} {xs : List V}, Cells f xs k H → NkAll H xs ((List.range k).map fun i => .tup [.num (f i).1, .num (f i).2])
  | 0, xs, h => by
    have : xs = [] := List.eq_nil_of_length_eq_zero h.1
    rw [this]; exact .nil
  | k + 1, xs, h => by
    obtain ⟨p, e, hp⟩ := h.2 k (Nat.lt_succ_self k)
    have hx : xs = xs.take k ++ [.ref p] := by
      have := take_snoc e
      rw [← this, List.take_of_length_le (by rw [h.1]; exact Nat.le_refl _)]
    rw [hx, List.range_succ, List.map_append]
    refine nkAll_app (nk_cells (k := k) ⟨by rw [List.length_take, h.1]; omega, fun i hi => ?_⟩) (.cons (.tup hp (.cons (.int _) (.cons (.int _) .nil))) .nil)
    obtain ⟨q, eq, hq⟩ := h.2 i (by omega)
    exact ⟨q, by rw [List.getElem?_take_of_lt hi]; exact eq, hq⟩
section
variable {P : Program} {w : World} {K : PySem.W.Frag} {mg : Str → Option Value} {base : Heap}
theorem csAt {cs : List Nat} {g : Nat} (h : g < cs.length) : (cs.map fun x => V.int (x : Nat))[g]? = some (V.int (cs.getD g 0 : Nat)) := by
  rw [List.getElem?_map, List.getD_eq_getElem?_getD, List.getElem?_eq_getElem h]
  rfl
theorem dn_wr {P : Program} {w : World} {H : Hp} {d l : Addr} {us ws : List V} {kvs : List (NestedKey × V)} (h : DnAt P w H d kvs) (hl : H l = some (.lst us)) (ne : d ≠ l) : DnAt P w (upd H l (.lst ws)) d kvs := by
  rcases h with ⟨a, b⟩ | ⟨xs, a, b, c⟩
  · exact .inl ⟨by rw [upd_ne ne]; exact a, b⟩
  · refine .inr ⟨xs, by rw [upd_ne ne]; exact a, b, fun x hx => ⟨(c x hx).1.tp fun b ys e => ?_, (c x hx).2⟩⟩
    rw [upd_ne (fun z => by rw [z, hl] at e; cases e)]
    exact e
theorem inV_nat {z : Nat} : ∀ {ks : List Nat}, inV (.int (z : Nat)) (ks.map fun x => V.int (x : Nat)) = decide (z ∈ ks)
  | [] => rfl
  | k :: ks => by
    have e : inV (.int (z : Nat)) ((k :: ks).map fun x => V.int (x : Nat)) = (((k : Int) == (z : Int)) || inV (.int (z : Nat)) (ks.map fun x => V.int (x : Nat))) := rfl
    rw [e, inV_nat (ks := ks)]
    by_cases h : k = z
    · rw [h, beq_self_eq_true, Bool.true_or, decide_eq_true List.mem_cons_self]
    · rw [beq_eq_false_iff_ne.mpr (fun q => h (by omega)), Bool.false_or]
      refine decide_eq_decide.mpr ⟨fun q => List.mem_cons_of_mem _ q, fun q => ?_⟩
      rcases List.mem_cons.mp q with q | q
      · exact absurd q.symm h
      · exact q
theorem flat_nats {ks : List Nat} : (ks.map fun x => V.int (x : Nat)).all flatV = true := by
  rw [List.all_map, List.all_eq_true]
  intro _ _; rfl
end
end My

set_option Elab.async false
set_option linter.all false
set_option maxRecDepth 100000
set_option maxHeartbeats 4000000
/-! classes, leaders and the search, by cells -/
namespace My
open PySem L2
def nx (c : Str → Nat → Int × Int) (z : Str) (s : Nat) : Nat := (c z s).2.toNat
def Nx (zs : List Str) (m : Nat) (c : Str → Nat → Int × Int) : Prop := ∀ z ∈ zs, ∀ s, s < m → nx c z s < m
def noteC (c : Str → Nat → Int × Int) (s : Nat) (f : List Nat) (z : Str) : List Nat := if nx c z s ∈ f then f else f ++ [nx c z s]
def visitC (c : Str → Nat → Int × Int) (s : Nat) (zs : List Str) (f : List Nat) : List Nat := zs.foldl (noteC c s) f
def fndC (zs : List Str) (c : Str → Nat → Int × Int) (first : Nat) : Nat → List Nat
  | 0 => [first]
  | i + 1 => match (fndC zs c first i)[i]? with
    | some s => visitC c s zs (fndC zs c first i)
    | none => fndC zs c first i
section
variable {zs : List Str} {c c' : Str → Nat → Int × Int} {m : Nat}
def FOk (m : Nat) (f : List Nat) : Prop := f.Nodup ∧ ∀ x ∈ f, x < m
theorem noteC_ok {s : Nat} {f : List Nat} {z : Str} (h : FOk m f) (hn : nx c z s < m) : FOk m (noteC c s f z) := by
  unfold noteC
  split
  · exact h
  · rename_i hq
    refine ⟨List.nodup_append.mpr ⟨h.1, by simp, fun x hx y hy e => hq (by rw [List.mem_singleton.mp hy] at e; rw [← e]; exact hx)⟩, fun x hx => ?_⟩
    rcases List.mem_append.mp hx with hx | hx
    · exact h.2 x hx
    · rw [List.mem_singleton.mp hx]; exact hn
theorem visitC_ok {s : Nat} : ∀ {zs : List Str} {f : List Nat}, (∀ z ∈ zs, nx c z s < m) → FOk m f → FOk m (visitC c s zs f)
  | [], _, _, h => h
  | z :: zs, f, hz, h => visitC_ok (zs := zs) (f := noteC c s f z) (fun y hy => hz y (List.mem_cons_of_mem _ hy)) (noteC_ok h (hz z List.mem_cons_self))
theorem fndC_ok {first : Nat} (hn : Nx zs m c) (hf : first < m) : ∀ i, FOk m (fndC zs c first i)
  | 0 => ⟨by simp [fndC], fun x hx => by rw [List.mem_singleton.mp hx]; exact hf⟩
  | i + 1 => by
    have ih := fndC_ok hn hf i
    unfold fndC
    split
    · rename_i s e
      exact visitC_ok (fun z hz => hn z hz s (ih.2 s (List.mem_of_getElem? e))) ih
    · exact ih
theorem FOk.len {f : List Nat} (h : FOk m f) : f.length ≤ m := by
  have := nodup_lenP h.1 (m := List.range m) fun x hx => List.mem_range.mpr (h.2 x hx)
  rwa [List.length_range] at this
theorem noteC_pre {s : Nat} {f : List Nat} {z : Str} : f <+: noteC c s f z := by
  unfold noteC
  split
  · exact List.prefix_refl _
  · exact List.prefix_append _ _
theorem visitC_pre {s : Nat} : ∀ {zs : List Str} {f : List Nat}, f <+: visitC c s zs f
  | [], f => List.prefix_refl _
  | z :: zs, f => noteC_pre.trans (visitC_pre (zs := zs) (f := noteC c s f z))
theorem fndC_pre1 {first : Nat} (i : Nat) : fndC zs c first i <+: fndC zs c first (i + 1) := by
  show _ <+: (match (fndC zs c first i)[i]? with | some s => visitC c s zs (fndC zs c first i) | none => fndC zs c first i)
  split
  · exact visitC_pre
  · exact List.prefix_refl _
theorem fndC_pre {first : Nat} (i : Nat) : ∀ k, fndC zs c first i <+: fndC zs c first (i + k)
  | 0 => List.prefix_refl _
  | k + 1 => (fndC_pre i k).trans (fndC_pre1 (i + k))
theorem fndC_succ {f0 i s : Nat} (e : (fndC zs c f0 i)[i]? = some s) : fndC zs c f0 (i + 1) = visitC c s zs (fndC zs c f0 i) := by
  show (match (fndC zs c f0 i)[i]? with | some s => visitC c s zs (fndC zs c f0 i) | none => fndC zs c f0 i) = _
  rw [e]
theorem fndC_stop {f0 i : Nat} (e : (fndC zs c f0 i).length ≤ i) : fndC zs c f0 (i + 1) = fndC zs c f0 i := by
  show (match (fndC zs c f0 i)[i]? with | some s => visitC c s zs (fndC zs c f0 i) | none => fndC zs c f0 i) = _
  rw [List.getElem?_eq_none e]
theorem fndC_stable {f0 i : Nat} (e : (fndC zs c f0 i).length ≤ i) : ∀ k, fndC zs c f0 (i + k) = fndC zs c f0 i
  | 0 => rfl
  | k + 1 => by
    have ih := fndC_stable e k
    rw [← Nat.add_assoc, fndC_stop (by rw [ih]; omega), ih]
/-- all that is found -/
theorem fndC_all {f0 i : Nat} (hn : Nx zs m c) (hf : f0 < m) (e : i = (fndC zs c f0 i).length) : fndC zs c f0 i = fndC zs c f0 m := by
  have hl := (fndC_ok hn hf i).len
  have := fndC_stable (show (fndC zs c f0 i).length ≤ i by omega) (m - i)
  rw [show i + (m - i) = m by omega] at this
  exact this.symm
theorem visitC_has {s : Nat} : ∀ {zs : List Str} {f : List Nat}, ∀ z ∈ zs, nx c z s ∈ visitC c s zs f
  | [], _, _, h => nomatch h
  | y :: zs, f, z, h => by
    rcases List.mem_cons.mp h with rfl | h
    · have h1 : nx c z s ∈ noteC c s f z := by
        unfold noteC
        split
        · assumption
        · exact List.mem_append_right _ List.mem_cons_self
      exact (visitC_pre (zs := zs) (f := noteC c s f z)).subset h1
    · exact visitC_has (zs := zs) (f := noteC c s f y) z h
/-- those asked lead within -/
theorem fndC_closed {f0 : Nat} : ∀ i, ∀ s ∈ (fndC zs c f0 i).take i, ∀ z ∈ zs, nx c z s ∈ fndC zs c f0 i
  | 0, s, h, _, _ => by rw [List.take_zero] at h; cases h
  | i + 1, s, h, z, hz => by
    have ih := fndC_closed (f0 := f0) i
    by_cases hi : i < (fndC zs c f0 i).length
    · have es : (fndC zs c f0 i)[i]? = some (fndC zs c f0 i)[i] := List.getElem?_eq_getElem hi
      rw [fndC_succ es] at h ⊢
      obtain ⟨r, hr⟩ := visitC_pre (c := c) (s := (fndC zs c f0 i)[i]) (zs := zs) (f := fndC zs c f0 i)
      rw [← hr, List.take_append_of_le_length (by omega), List.take_succ, List.getElem?_eq_getElem hi] at h
      rcases List.mem_append.mp h with h | h
      · exact visitC_pre.subset (ih s h z hz)
      · have : s = (fndC zs c f0 i)[i] := by simpa using h
        rw [this]
        exact visitC_has z hz
    · rw [fndC_stop (by omega)] at h ⊢
      rw [List.take_of_length_le (by omega)] at h
      exact ih s (by rw [List.take_of_length_le (by omega)]; exact h) z hz
theorem fndC_full {f0 : Nat} (hn : Nx zs m c) (hf : f0 < m) : ∀ s ∈ fndC zs c f0 m, ∀ z ∈ zs, nx c z s ∈ fndC zs c f0 m := fun s hs z hz =>
  fndC_closed m s (by rw [List.take_of_length_le (fndC_ok hn hf m).len]; exact hs) z hz
theorem fndC_head {f0 : Nat} (i : Nat) : (fndC zs c f0 i)[0]? = some f0 := by
  obtain ⟨r, hr⟩ := fndC_pre (zs := zs) (c := c) (first := f0) 0 i
  rw [Nat.zero_add] at hr
  rw [← hr]
  rfl
theorem noteC_congr {s : Nat} {f : List Nat} {z : Str} (h : c z s = c' z s) : noteC c s f z = noteC c' s f z := by
  unfold noteC nx
  rw [h]
theorem visitC_congr {s : Nat} : ∀ {zs : List Str} {f : List Nat}, (∀ z ∈ zs, c z s = c' z s) → visitC c s zs f = visitC c' s zs f
  | [], _, _ => rfl
  | z :: zs, f, h => by
    show visitC c s zs (noteC c s f z) = visitC c' s zs (noteC c' s f z)
    rw [noteC_congr (h z List.mem_cons_self), visitC_congr fun y hy => h y (List.mem_cons_of_mem _ hy)]
theorem fndC_congr {f0 : Nat} (hn : Nx zs m c) (hf : f0 < m) (h : ∀ z ∈ zs, ∀ s, s < m → c z s = c' z s) : ∀ i, fndC zs c f0 i = fndC zs c' f0 i
  | 0 => rfl
  | i + 1 => by
    have ih := fndC_congr hn hf h i
    by_cases hi : i < (fndC zs c f0 i).length
    · have es : (fndC zs c f0 i)[i]? = some (fndC zs c f0 i)[i] := List.getElem?_eq_getElem hi
      have hs := (fndC_ok hn hf i).2 _ (List.getElem_mem hi)
      generalize (fndC zs c f0 i)[i] = s at es hs
      rw [fndC_succ es, visitC_congr fun z hz => h z hz _ hs]
      rw [fndC_succ (zs := zs) (c := c') (s := s) (by rw [← ih]; exact es), ih]
    · rw [fndC_stop (by omega), fndC_stop (by rw [← ih]; omega), ih]
end
def cF (rs : List (Str × PyData)) : Str → Nat → Int × Int := fun z s => cellOf rs z (s : Nat)
theorem visitC_snoc {c : Str → Nat → Int × Int} {s j : Nat} {zs : List Str} {f : List Nat} {z : Str} (e : zs[j]? = some z) : visitC c s (zs.take (j + 1)) f = noteC c s (visitC c s (zs.take j) f) z := by
  unfold visitC
  rw [take_snoc e, List.foldl_append]
  rfl
theorem visitC_get {c : Str → Nat → Int × Int} {s : Nat} {zs : List Str} {f : List Nat} {i x : Nat} (h : f[i]? = some x) : (visitC c s zs f)[i]? = some x := by
  obtain ⟨r, hr⟩ := visitC_pre (c := c) (s := s) (zs := zs) (f := f)
  rw [← hr, List.getElem?_append_left (List.getElem?_eq_some_iff.mp h).1]
  exact h
end My

set_option Elab.async false
set_option linter.all false
set_option maxRecDepth 100000
set_option maxHeartbeats 4000000
/-! pairs of states, and that the least table is one -/
namespace My
open PySem L2
section
variable {zs : List Str} {c c' : Str → Nat → Int × Int} {m n : Nat}
theorem fndC_inv {I : Nat → Prop} {f0 : Nat} (h0 : I f0) (step : ∀ x, I x → ∀ z ∈ zs, I (nx c z x)) : ∀ i, ∀ x ∈ fndC zs c f0 i, I x
  | 0, x, h => by rw [List.mem_singleton.mp h]; exact h0
  | i + 1, x, h => by
    have ih := fndC_inv h0 step i
    have vis : ∀ (ys : List Str) (f : List Nat) (s : Nat), (∀ z ∈ ys, z ∈ zs) → I s → (∀ x ∈ f, I x) → ∀ x ∈ visitC c s ys f, I x := by
      intro ys
      induction ys with
      | nil => intro f s _ _ h x hx; exact h x hx
      | cons z ys ihy =>
        intro f s hz hs hf x hx
        refine ihy (noteC c s f z) s (fun y hy => hz y (List.mem_cons_of_mem _ hy)) hs (fun y hy => ?_) x hx
        unfold noteC at hy
        split at hy
        · exact hf y hy
        · rcases List.mem_append.mp hy with hy | hy
          · exact hf y hy
          · rw [List.mem_singleton.mp hy]; exact step s hs z (hz z List.mem_cons_self)
    by_cases hi : i < (fndC zs c f0 i).length
    · have es : (fndC zs c f0 i)[i]? = some (fndC zs c f0 i)[i] := List.getElem?_eq_getElem hi
      rw [fndC_succ es] at h
      exact vis zs _ _ (fun z hz => hz) (ih _ (List.getElem_mem hi)) ih x h
    · rw [fndC_stop (by omega)] at h
      exact ih x h
/-- the search, its states named anew -/
theorem fndC_map {M : Nat} {σ : Nat → Nat} {f0 : Nat} (hN : Nx zs M c) (hf : f0 < M) (inj : ∀ x y, x < M → y < M → σ x = σ y → x = y) (hs : ∀ z ∈ zs, ∀ x, x < M → nx c' z (σ x) = σ (nx c z x)) : ∀ i, fndC zs c' (σ f0) i = (fndC zs c f0 i).map σ
  | 0 => rfl
  | i + 1 => by
    have ih := fndC_map hN hf inj hs i
    have fo := fndC_ok hN hf i
    have vis : ∀ (ys : List Str) (f : List Nat) (s : Nat), (∀ z ∈ ys, z ∈ zs) → s < M → (∀ x ∈ f, x < M) → visitC c' (σ s) ys (f.map σ) = (visitC c s ys f).map σ := by
      intro ys
      induction ys with
      | nil => intro f s _ _ _; rfl
      | cons z ys ihy =>
        intro f s hz hs' hf'
        have z0 := hz z List.mem_cons_self
        have hx := hN z z0 s hs'
        have e : noteC c' (σ s) (f.map σ) z = (noteC c s f z).map σ := by
          unfold noteC
          rw [hs z z0 s hs']
          by_cases h : nx c z s ∈ f
          · rw [if_pos h, if_pos (List.mem_map_of_mem h)]
          · rw [if_neg h, if_neg, List.map_append]
            · rfl
            · intro q
              obtain ⟨y, hy, e⟩ := List.mem_map.mp q
              exact h (by rw [← inj y _ (hf' y hy) hx e]; exact hy)
        show visitC c' (σ s) ys (noteC c' (σ s) (f.map σ) z) = (visitC c s ys (noteC c s f z)).map σ
        rw [e]
        refine ihy _ s (fun y hy => hz y (List.mem_cons_of_mem _ hy)) hs' fun x hx' => ?_
        unfold noteC at hx'
        split at hx'
        · exact hf' x hx'
        · rcases List.mem_append.mp hx' with hx' | hx'
          · exact hf' x hx'
          · rw [List.mem_singleton.mp hx']; exact hx
    by_cases hi : i < (fndC zs c f0 i).length
    · have es : (fndC zs c f0 i)[i]? = some (fndC zs c f0 i)[i] := List.getElem?_eq_getElem hi
      have hl := fo.2 _ (List.getElem_mem hi)
      generalize (fndC zs c f0 i)[i] = s at es hl
      rw [fndC_succ es, fndC_succ (zs := zs) (c := c') (f0 := σ f0) (s := σ s) (by rw [ih, List.getElem?_map, es]; rfl), ih]
      exact vis zs _ s (fun z hz => hz) hl fo.2
    · rw [fndC_stop (zs := zs) (c := c') (f0 := σ f0) (i := i) (by rw [ih, List.length_map]; omega), fndC_stop (zs := zs) (c := c) (f0 := f0) (i := i) (by omega), ih]
/-- the cells of the pairs of two tables: the pair (s, t) is s * n + t -/
def pairC (c c' : Str → Nat → Int × Int) (n : Nat) : Str → Nat → Int × Int := fun z x => (0, ((nx c z (x / n) * n + nx c' z (x % n) : Nat) : Int))
theorem pair_nx {z : Str} {x : Nat} : nx (pairC c c' n) z x = nx c z (x / n) * n + nx c' z (x % n) := Int.toNat_natCast _
theorem pair_div {s t : Nat} (h : t < n) : (s * n + t) / n = s := by
  rw [Nat.add_comm, Nat.add_mul_div_right _ _ (by omega), Nat.div_eq_of_lt h, Nat.zero_add]
theorem pair_mod {s t : Nat} (h : t < n) : (s * n + t) % n = t := by
  rw [Nat.add_comm, Nat.add_mul_mod_self_right, Nat.mod_eq_of_lt h]
theorem pair_lt {s t : Nat} (hs : s < m) (ht : t < n) : s * n + t < m * n := by
  have := Nat.mul_le_mul_right n (show s + 1 ≤ m from hs)
  rw [Nat.add_mul, Nat.one_mul] at this
  omega
theorem pair_in {x : Nat} (h : x < m * n) : x / n < m ∧ x % n < n := by
  have hn : 0 < n := by
    rcases Nat.eq_zero_or_pos n with e | e
    · rw [e, Nat.mul_zero] at h; omega
    · exact e
  exact ⟨Nat.div_lt_of_lt_mul (by rw [Nat.mul_comm]; exact h), Nat.mod_lt _ hn⟩
theorem pair_eq {x y : Nat} (h1 : x / n = y / n) (h2 : x % n = y % n) : x = y := by
  have a := Nat.div_add_mod x n
  have b := Nat.div_add_mod y n
  rw [h1, h2] at a
  omega
theorem pair_Nx (hN : Nx zs m c) (hN' : Nx zs n c') : Nx zs (m * n) (pairC c c' n) := fun z hz x hx => by
  obtain ⟨a, b⟩ := pair_in hx
  rw [pair_nx]
  exact pair_lt (hN z hz _ a) (hN' z hz _ b)
/-- sorted: there is one such list -/
theorem sort_one {F G G' : List Nat} (h : G.Perm F) (h' : G'.Perm F) (s : G.Pairwise (· ≤ ·)) (s' : G'.Pairwise (· ≤ ·)) : G = G' := (h.trans h'.symm).eq_of_pairwise (le := (· ≤ ·)) (fun a b _ _ => Nat.le_antisymm) s s'
/-- two tables that answer alike -/
structure Alk (zs : List Str) (c c' : Str → Nat → Int × Int) (m n f0 g0 : Nat) (S : Nat → Nat → Prop) : Prop where
  zero : S f0 g0
  step : ∀ s t, S s t → s < m ∧ t < n ∧ ∀ z ∈ zs, (c z s).1 = (c' z t).1 ∧ S (nx c z s) (nx c' z t)
theorem Alk.swap {f0 g0 : Nat} {S : Nat → Nat → Prop} (h : Alk zs c c' m n f0 g0 S) : Alk zs c' c n m g0 f0 fun t s => S s t :=
  ⟨h.zero, fun t s q => by
    obtain ⟨a, b, r⟩ := h.step s t q
    exact ⟨b, a, fun z hz => ⟨(r z hz).1.symm, (r z hz).2⟩⟩⟩
end
theorem CellOk.nx {rs : List (Str × PyData)} {m : Nat} (h : CellOk rs m) : Nx (namesOf rs) m (cF rs) := fun z hz s hs => by
  obtain ⟨_, _, a, b⟩ := h z hz s hs
  show (cellOf rs z (s : Nat)).2.toNat < m
  omega
theorem CellB.toNx {zs : List Str} {m : Nat} {most : Int} {c : Str → Nat → Int × Int} (h : CellB zs m most c) : Nx zs m c := fun z hz s hs => by
  obtain ⟨_, a, b⟩ := h z hz s hs
  unfold nx
  omega
end My

set_option Elab.async false
set_option linter.all false
set_option maxRecDepth 100000
set_option maxHeartbeats 4000000
namespace My
open PySem L2 NdefX
abbrev s_law_mixed : Stmt := top 28
theorem sc_law_mixed : FnScope ["_law_cell", "_law_k", "_law_one", "_law_two"] ["_law_cell", "_law_k"] (defScope s_law_mixed) := ⟨rfl, rfl, rfl, by decide +kernel, rfl, by decide +kernel, by decide +kernel⟩
abbrev s_law_draws : Stmt := top 29
theorem sc_law_draws : FnScope ["_law_script", "_law_at", "_law_bounds", "_law_cell", "_law_rest", "_law_great", "_law_found", "_law_bound"] ["_law_script", "_law_at", "_law_bounds"] (defScope s_law_draws) := ⟨rfl, rfl, rfl, by decide +kernel, rfl, by decide +kernel, by decide +kernel⟩
structure BtG (mg : Str → Option Value) : Prop where
  b_int : mg "int" = none
  b_len : mg "len" = none
  b_abs : mg "abs" = none
section
variable {P : Program} {w : World} {K : PySem.W.Frag} {mg : Str → Option Value} {base : Heap}
def spMixed : Sp := fun vs H Q _ => ∃ (c k : Int), vs = [.int c, .int k] ∧ 0 ≤ k ∧ k ≤ 2000000 ∧ ∀ r : Int, 0 ≤ r → r < 2147483587 → Q (.int r) H
theorem ok_law_mixed {f : Addr} {fd : FuncData} (D : Df K mg "_law_mixed" s_law_mixed ["_law_cell", "_law_k"] f fd) (T : BtG mg) : FnOk P w K mg base CX0 1 f fd ["_law_cell", "_law_k"] spMixed := by
  refine D.F.ok sc_law_mixed (fun vs H Q E h => ?_) (fun cdv A outer s H vs Q E hr h => ?_)
  · obtain ⟨c, k, rfl, _⟩ := h
    rfl
  · obtain ⟨c, k, rfl, k0, k1, q⟩ := h
    refine ⟨_, (pss_cons (ps_set (i := 2) sc_law_mixed.nd rfl (Or.inl rfl) (pe_op op_mod (pe_callTy (T := "int") call_int1 (by rfl) T.b_int (by decide +kernel) (pa_cons (pe_op op_add (pe_op op_add (pe_op op_mul (pv 0) pe_int) (pe_op op_mul (pv 1) pe_int)) pe_int) pa_nil)) pe_int))
      (pss_cons (ps_set (i := 3) sc_law_mixed.nd rfl (Or.inl rfl) (pe_op op_mod (pe_callTy (T := "int") call_int1 (by rfl) T.b_int (by decide +kernel) (pa_cons (pe_op op_add (pe_op op_add (pe_op op_mul (pv 2) (pv 2)) (pe_op op_mul (pv 1) pe_int)) pe_int) pa_nil)) pe_int))
      (pss_one (ps_ret (pe_op op_mod (pe_callTy (T := "int") call_int1 (by rfl) T.b_int (by decide +kernel) (pa_cons (pe_op op_add (pe_op op_mul (pv 3) (pv 3)) (pv 2)) pa_nil)) pe_int))))), ?_⟩
    try simp (maxSteps := 1000000) only [tSeq, tIfS, tTest, tOp, tUn, tCB, tCons, tNil, tVar, tC, rI0, rI, rU, rEq, rNe, tRet, tRetN, tAsg, gName, gSub, tBM, tBM0, tNext, tB, tNot, tAnd, tOr, tIf, tCall, tDrop, tBreak, tCont, L2.start, tDGet, sDPut, tTup, tLst, tDNewK, tRevL, rCat, rAppend, rPop, rSetL, tAndV, tOrV, tNotV, tSl, tPart, tNoPart, tM1, gTup, gCons, gNil, cxK, cxnK, List.map_cons, List.map_nil, List.length_cons, List.length_nil, List.replicate, List.cons_append, List.nil_append, List.append_nil, List.set_cons_zero, List.set_cons_succ, List.getElem?_cons_zero, List.getElem?_cons_succ, Option.some.injEq, V.ref.injEq, V.int.injEq, V.str.injEq, V.bl.injEq, V.ty.injEq, exists_eq_left', exists_eq_left, exists_and_left, List.cons.injEq, and_true, true_and, sc_ii, sc_ss, sc_bb, sc_ni, sc_in, sc_is, sc_si, sc_nn, decide_true, decide_false, reduceCtorEq, Bool.false_eq_true, if_true, if_false, ite_true, ite_false, exists_const, eq_self, false_and, and_false, or_false, false_or, exists_false, Evl.rLenS, rSum, wipe, tYes, exists_eq, exists_eq', rIxL, rIxT, rIxS, exists_and_right, gt_iff_lt, not_true_eq_false, not_false_eq_true, Bool.not_true, Bool.not_false, decide_eq_true_eq, Nat.reduceSub, Nat.reduceAdd, List.append_assoc, tChain, tDIn, tDNotIn, sDDel, tAug, ipI]
    have m1 := Int.emod_nonneg (c * 48271 + k * 69621 + 17) (show (2147483647 : Int) ≠ 0 by decide)
    have m2 := Int.emod_lt_of_pos (c * 48271 + k * 69621 + 17) (show (0 : Int) < 2147483647 by decide)
    generalize (c * 48271 + k * 69621 + 17) % 2147483647 = x at m1 m2 ⊢
    have m3 := Int.emod_nonneg (x * x + k * 16807 + 29) (show (2147483629 : Int) ≠ 0 by decide)
    have m4 := Int.emod_lt_of_pos (x * x + k * 16807 + 29) (show (0 : Int) < 2147483629 by decide)
    generalize (x * x + k * 16807 + 29) % 2147483629 = y at m3 m4 ⊢
    exact ⟨.inr ⟨by decide, by decide⟩, .inr ⟨by decide, by decide⟩, by decide, .inl ⟨by omega, by omega⟩, .inr ⟨by decide, by decide⟩, by decide, .inl ⟨by omega, by omega⟩, by decide, q _ (Int.emod_nonneg _ (by decide)) (Int.emod_lt_of_pos _ (by decide))⟩
/-- the script -/
def Scr (K : PySem.W.Frag) (H : Hp) (a : Addr) (ns : List Int) : Prop := SqL K H a (ns.map V.int) ∧ ns.length ≤ 63
def DrawOk (bs ds : List Int) : Prop := ds.length = bs.length ∧ ∀ (i : Nat) (d b : Int), ds[i]? = some d → bs[i]? = some b → 0 ≤ d ∧ d < b
def spDraws (K : PySem.W.Frag) : Sp := fun vs H Q _ => ∃ (a bl : Addr) (at_ : Nat) (ns bs : List Int), vs = [.ref a, .int (at_ : Nat), .ref bl] ∧ Scr K H a ns ∧ at_ ≤ 1000 ∧ H bl = some (.lst (bs.map V.int)) ∧ bs.length ≤ 10000 ∧ (∀ b ∈ bs, 1 ≤ b ∧ b ≤ 1000000000) ∧
  ∀ (r : Addr) (ds : List Int) (H' : Hp), H r = none → H' r = some (.lst (ds.map V.int)) → DrawOk bs ds → Kp [] H H' → Q (.ref r) H'
theorem ok_law_draws {f : Addr} {fd : FuncData} (D : Df K mg "_law_draws" s_law_draws ["_law_script", "_law_at", "_law_bounds"] f fd) (T : BtG mg) {fg : Addr} {fdg : FuncData} (D_law_mixed : Df K mg "_law_mixed" s_law_mixed ["_law_cell", "_law_k"] fg fdg) (G_law_mixed : FnOk P w K mg base CX0 1 fg fdg ["_law_cell", "_law_k"] spMixed) : FnOk P w K mg base CX0 2 f fd ["_law_script", "_law_at", "_law_bounds"] (spDraws K) := by
  refine D.F.ok sc_law_draws (fun vs H Q E h => ?_) (fun cdv A outer s H vs Q E hr h => ?_)
  · obtain ⟨a, bl, at_, ns, bs, rfl, _⟩ := h
    rfl
  · obtain ⟨a, bl, at_, ns, bs, rfl, ⟨hS, hl⟩, a1, hb, bz, b1, q⟩ := h
    refine ⟨_, (pss_cons (ps_if (pt_cmpR op_eq (pe_callB (id := "len") (r := Evl.rLenS K) call_len_seq (by rfl) T.b_len PySem.boot_len (pa_cons (pv 0) pa_nil)) pe_int (nomark _)) (pss_one (ps_ret (pe_op op_rep (pe_lst (pa_cons pe_int pa_nil)) (pe_callB (id := "len") (r := Evl.rLenS K) call_len_seq (by rfl) T.b_len PySem.boot_len (pa_cons (pv 2) pa_nil))))) pss_nil)
      (pss_cons (ps_set (i := 3) sc_law_draws.nd rfl (Or.inl rfl) (pe_callTy (T := "int") call_int1 (by rfl) T.b_int (by decide +kernel) (pa_cons (pe_ix (r := rIxL K) ix_list (pv 0) (pe_op op_mod (pe_callTy (T := "int") call_int1 (by rfl) T.b_int (by decide +kernel) (pa_cons (pv 1) pa_nil)) (pe_callB (id := "len") (r := Evl.rLenS K) call_len_seq (by rfl) T.b_len PySem.boot_len (pa_cons (pv 0) pa_nil))) (fun _ _ => rfl)) pa_nil)))
      (pss_cons (ps_if (pt_cmpR op_ge (pv 1) (pe_callB (id := "len") (r := Evl.rLenS K) call_len_seq (by rfl) T.b_len PySem.boot_len (pa_cons (pv 0) pa_nil)) (nomark _)) (pss_one (ps_set (i := 3) sc_law_draws.nd rfl (Or.inl rfl) (pe_op op_mod (pe_callTy (T := "int") call_int1 (by rfl) T.b_int (by decide +kernel) (pa_cons (pv 3) pa_nil)) pe_int))) pss_nil)
      (pss_cons (ps_set (i := 4) sc_law_draws.nd rfl (Or.inl rfl) (pe_callB (id := "abs") call_abs (by rfl) T.b_abs (by decide +kernel) (pa_cons (pv 3) pa_nil)))
      (pss_cons (ps_set (i := 5) sc_law_draws.nd rfl (Or.inl rfl) (pe_cmpR op_ge (pv 4) (pe_op op_pow pe_int pe_int) (nomark _)))
      (pss_cons (ps_set (i := 6) sc_law_draws.nd rfl (Or.inl rfl) (pe_lst pa_nil))
      (pss_cons (ps_for PassesOwn.never rfl (pi_list (pv 2)) (pg_name (i := 7) sc_law_draws.nd rfl (Or.inl rfl)) (pss_one (ps_if (pt_val (pv 5)) (pss_cons (ps_expr (pe_bm PySem.F.plainAttrs_list PySem.F.slot_list_append PySem.F.type_list_append mt_append (pv 6) (pa_cons (pe_op op_mod (pe_callTy (T := "int") call_int1 (by rfl) T.b_int (by decide +kernel) (pa_cons (pv 4) pa_nil)) (pv 7)) pa_nil)))
      (pss_one (ps_set (i := 4) sc_law_draws.nd rfl (Or.inl rfl) (pe_op op_fdiv (pv 4) (pv 7))))) (pss_one (ps_expr (pe_bm PySem.F.plainAttrs_list PySem.F.slot_list_append PySem.F.type_list_append mt_append (pv 6) (pa_cons (pe_op op_mod (pe_callTy (T := "int") call_int1 (by rfl) T.b_int (by decide +kernel) (pa_cons (pe_call G_law_mixed (hr.mono (by decide)) rfl D_law_mixed.g D_law_mixed.F.kp D_law_mixed.b .nil pass0 (pa_cons (pv 3) (pa_cons (pe_op op_add (pe_op op_mul pe_int (pv 1)) (pe_callB (id := "len") (r := Evl.rLenS K) call_len_seq (by rfl) T.b_len PySem.boot_len (pa_cons (pv 6) pa_nil))) pa_nil))) pa_nil)) (pv 7)) pa_nil)))))))
      (pss_one (ps_ret (pv 6)))))))))), ?_⟩
    try simp (maxSteps := 1000000) only [tSeq, tIfS, tTest, tOp, tUn, tCB, tCons, tNil, tVar, tC, rI0, rI, rU, rEq, rNe, tRet, tRetN, tAsg, gName, gSub, tBM, tBM0, tNext, tB, tNot, tAnd, tOr, tIf, tCall, tDrop, tBreak, tCont, L2.start, tDGet, sDPut, tTup, tLst, tDNewK, tRevL, rCat, rAppend, rPop, rSetL, tAndV, tOrV, tNotV, tSl, tPart, tNoPart, tM1, gTup, gCons, gNil, cxK, cxnK, List.map_cons, List.map_nil, List.length_cons, List.length_nil, List.replicate, List.cons_append, List.nil_append, List.append_nil, List.set_cons_zero, List.set_cons_succ, List.getElem?_cons_zero, List.getElem?_cons_succ, Option.some.injEq, V.ref.injEq, V.int.injEq, V.str.injEq, V.bl.injEq, V.ty.injEq, exists_eq_left', exists_eq_left, exists_and_left, List.cons.injEq, and_true, true_and, sc_ii, sc_ss, sc_bb, sc_ni, sc_in, sc_is, sc_si, sc_nn, decide_true, decide_false, reduceCtorEq, Bool.false_eq_true, if_true, if_false, ite_true, ite_false, exists_const, eq_self, false_and, and_false, or_false, false_or, exists_false, Evl.rLenS, rSum, wipe, tYes, exists_eq, exists_eq', rIxL, rIxT, rIxS, exists_and_right, gt_iff_lt, not_true_eq_false, not_false_eq_true, Bool.not_true, Bool.not_false, decide_eq_true_eq, Nat.reduceSub, Nat.reduceAdd, List.append_assoc, tChain, tDIn, tDNotIn, sDDel, tAug, ipI]
    refine ⟨_, .inl hS, ?_⟩
    rw [List.length_map]
    have zero_ok : DrawOk bs (List.replicate bs.length 0) := ⟨by simp, fun i d b hd hb' => by
      rw [List.getElem?_replicate] at hd
      split at hd
      · cases hd
        exact ⟨by decide, by have := (b1 b (List.mem_of_getElem? hb')).1; omega⟩
      · cases hd⟩
    refine ite2 (fun h1 => ?_) (fun h1 => ?_)
    · refine ⟨by decide, fun p np => ?_⟩
      have kp : Kp [] H (upd H p (.lst [.int 0])) := Kp.new np
      try simp (maxSteps := 1000000) only [tSeq, tIfS, tTest, tOp, tUn, tCB, tCons, tNil, tVar, tC, rI0, rI, rU, rEq, rNe, tRet, tRetN, tAsg, gName, gSub, tBM, tBM0, tNext, tB, tNot, tAnd, tOr, tIf, tCall, tDrop, tBreak, tCont, L2.start, tDGet, sDPut, tTup, tLst, tDNewK, tRevL, rCat, rAppend, rPop, rSetL, tAndV, tOrV, tNotV, tSl, tPart, tNoPart, tM1, gTup, gCons, gNil, cxK, cxnK, List.map_cons, List.map_nil, List.length_cons, List.length_nil, List.replicate, List.cons_append, List.nil_append, List.append_nil, List.set_cons_zero, List.set_cons_succ, List.getElem?_cons_zero, List.getElem?_cons_succ, Option.some.injEq, V.ref.injEq, V.int.injEq, V.str.injEq, V.bl.injEq, V.ty.injEq, exists_eq_left', exists_eq_left, exists_and_left, List.cons.injEq, and_true, true_and, sc_ii, sc_ss, sc_bb, sc_ni, sc_in, sc_is, sc_si, sc_nn, decide_true, decide_false, reduceCtorEq, Bool.false_eq_true, if_true, if_false, ite_true, ite_false, exists_const, eq_self, false_and, and_false, or_false, false_or, exists_false, Evl.rLenS, rSum, wipe, tYes, exists_eq, exists_eq', rIxL, rIxT, rIxS, exists_and_right, gt_iff_lt, not_true_eq_false, not_false_eq_true, Bool.not_true, Bool.not_false, decide_eq_true_eq, Nat.reduceSub, Nat.reduceAdd, List.append_assoc, tChain, tDIn, tDNotIn, sDDel, tAug, ipI, rRep]
      refine ⟨_, .inl (sq_l (kp _ _ not0 hb)), [.int 0], upd_same, by rw [List.length_map]; omega, by rw [List.length_map]; omega, ?_, fun r nr => ?_⟩
      · rw [List.length_map, List.length_singleton, Int.toNat_natCast]
        have := (smallL (n := bs.length) (by omega))
        omega
      · have nr' := kp.free0 nr
        refine q r (List.replicate bs.length 0) _ nr' ?_ zero_ok (kp.trans (Kp.new nr))
        have fl : ∀ n : Nat, (List.replicate n [V.int 0]).flatten = (List.replicate n (0 : Int)).map V.int := by
          intro n
          induction n with
          | zero => rfl
          | succ n ih => rw [List.replicate_succ, List.replicate_succ, List.flatten_cons, ih]; rfl
        rw [upd_same, List.length_map, Int.toNat_natCast, fl]
    · have tail : ∀ (p : Addr), H p = none → ∀ (cell rest : Int) (gr : Bool), 0 ≤ rest → (tFor (iList K (tVar 2)) (gName 7)
          (tIfS (tB (tVar 5)) (tSeq (tDrop (tBM K "list" rAppend (tVar 6) (tCons (tOp (rI (fun _ j => 0 < j) fun i j => V.int (i % j)) (tCB (fun xs H Q => (∃ i, xs = [V.int i] ∧ Q (V.int i) H) ∨ ∃ k, xs = [V.bl k] ∧ Q (V.int (if k = true then 1 else 0)) H) (tCons (tVar 4) tNil)) (tVar 7)) tNil))) (tAsg (tOp (rI CDiv fun i j => V.int (i / j)) (tVar 4) (tVar 7)) (gName 4)))
            (tDrop (tBM K "list" rAppend (tVar 6) (tCons (tOp (rI (fun _ j => 0 < j) fun i j => V.int (i % j)) (tCB (fun xs H Q => (∃ i, xs = [V.int i] ∧ Q (V.int i) H) ∨ ∃ k, xs = [V.bl k] ∧ Q (V.int (if k = true then 1 else 0)) H) (tCons (tCall spMixed [] E0 (tCons (tVar 3) (tCons (tOp (rI0 fun i j => V.int (i + j)) (tOp (rI CMul fun i j => V.int (i * j)) (tC (V.int 1009)) (tVar 1)) (tCB (Evl.rLenS K) (tCons (tVar 6) tNil))) tNil))) tNil)) (tVar 7)) tNil)))))
          { nx := tRet (tVar 6) { nx := fun x H' => Q V.non H', rt := Q }, rt := Q } [some (V.ref a), some (V.int (at_ : Nat)), some (V.ref bl), some (V.int cell), some (V.int rest), some (V.bl gr), some (V.ref p), none] (upd H p (HO.lst [])) := by
        intro p np cell rest0 gr r2
        have kp : Kp [] H (upd H p (.lst [])) := Kp.new np
        refine ⟨.ref bl, rfl, bl, rfl, ⟨_, sq_l (kp _ _ not0 hb)⟩, for_list (K := K) (a := bl) (xs := bs.map V.int) (fun i σ H' => ∃ (rest : Int) (c7 : Option V) (ds : List Int), σ = [some (.ref a), some (.int (at_ : Nat)), some (.ref bl), some (.int cell), some (.int rest), some (.bl gr), some (.ref p), c7] ∧ 0 ≤ rest ∧ H' p = some (.lst (ds.map V.int)) ∧ DrawOk (bs.take i) ds ∧ Kp [] H H') ⟨rest0, none, [], rfl, r2, upd_same, ⟨rfl, fun i d b e => by cases e⟩, kp⟩ (fun i σ H' _ h => by obtain ⟨_, _, _, _, _, _, _, k⟩ := h; exact k.ls not0 (sq_l hb)) ?_ ?_⟩
        · rintro i v σ H1 hx ⟨rest, c7, ds, rfl, s0, hp, hd, k1⟩
          obtain ⟨b, eb, rfl⟩ : ∃ b, bs[i]? = some b ∧ V.int b = v := by
            rw [List.getElem?_map] at hx
            cases e : bs[i]? with
            | none => rw [e] at hx; cases hx
            | some b => rw [e] at hx; exact ⟨b, rfl, Option.some.inj hx⟩
          have bb := b1 b (List.mem_of_getElem? eb)
          have il := (List.getElem?_eq_some_iff.mp eb).1
          have dl : ds.length = i := by rw [hd.1, List.length_take]; omega
          have more : ∀ d : Int, 0 ≤ d → d < b → DrawOk (bs.take (i + 1)) (ds ++ [d]) := fun d d0 d1 => ⟨by rw [take_snoc eb, List.length_append, List.length_append, hd.1]; rfl, fun j d' b' hj hb' => by
            rw [take_snoc eb] at hb'
            have lt : (bs.take i).length = i := by rw [List.length_take]; omega
            rcases Nat.lt_trichotomy j i with w | w | w
            · rw [List.getElem?_append_left (by omega)] at hj hb'
              exact hd.2 j d' b' hj hb'
            · subst w
              rw [List.getElem?_append_right (by omega)] at hj hb'
              rw [dl, Nat.sub_self] at hj
              rw [lt, Nat.sub_self] at hb'
              cases hj
              cases hb'
              exact ⟨d0, d1⟩
            · rw [List.getElem?_append_right (by omega), dl, List.getElem?_eq_none (by simp; omega)] at hj
              cases hj⟩
          have sl : (ds.map V.int).length < sizeLine := smallL (by rw [List.length_map]; omega)
          cases gr with
          | true =>
            try simp (maxSteps := 1000000) only [tSeq, tIfS, tTest, tOp, tUn, tCB, tCons, tNil, tVar, tC, rI0, rI, rU, rEq, rNe, tRet, tRetN, tAsg, gName, gSub, tBM, tBM0, tNext, tB, tNot, tAnd, tOr, tIf, tCall, tDrop, tBreak, tCont, L2.start, tDGet, sDPut, tTup, tLst, tDNewK, tRevL, rCat, rAppend, rPop, rSetL, tAndV, tOrV, tNotV, tSl, tPart, tNoPart, tM1, gTup, gCons, gNil, cxK, cxnK, List.map_cons, List.map_nil, List.length_cons, List.length_nil, List.replicate, List.cons_append, List.nil_append, List.append_nil, List.set_cons_zero, List.set_cons_succ, List.getElem?_cons_zero, List.getElem?_cons_succ, Option.some.injEq, V.ref.injEq, V.int.injEq, V.str.injEq, V.bl.injEq, V.ty.injEq, exists_eq_left', exists_eq_left, exists_and_left, List.cons.injEq, and_true, true_and, sc_ii, sc_ss, sc_bb, sc_ni, sc_in, sc_is, sc_si, sc_nn, decide_true, decide_false, reduceCtorEq, Bool.false_eq_true, if_true, if_false, ite_true, ite_false, exists_const, eq_self, false_and, and_false, or_false, false_or, exists_false, Evl.rLenS, rSum, wipe, tYes, exists_eq, exists_eq', rIxL, rIxT, rIxS, exists_and_right, gt_iff_lt, not_true_eq_false, not_false_eq_true, Bool.not_true, Bool.not_false, decide_eq_true_eq, Nat.reduceSub, Nat.reduceAdd, List.append_assoc, tChain, tDIn, tDNotIn, sDDel, tAug, ipI]
            exact ⟨.inl ⟨rfl, _, sq_l hp⟩, by omega, _, hp, sl, ⟨by omega, by omega⟩, Int.ediv_nonneg s0 (by omega), ds ++ [rest % b], by rw [upd_same, List.map_append]; rfl, more _ (Int.emod_nonneg _ (by omega)) (Int.emod_lt_of_pos _ (by omega)), k1.wr np⟩
          | false =>
            try simp (maxSteps := 1000000) only [tSeq, tIfS, tTest, tOp, tUn, tCB, tCons, tNil, tVar, tC, rI0, rI, rU, rEq, rNe, tRet, tRetN, tAsg, gName, gSub, tBM, tBM0, tNext, tB, tNot, tAnd, tOr, tIf, tCall, tDrop, tBreak, tCont, L2.start, tDGet, sDPut, tTup, tLst, tDNewK, tRevL, rCat, rAppend, rPop, rSetL, tAndV, tOrV, tNotV, tSl, tPart, tNoPart, tM1, gTup, gCons, gNil, cxK, cxnK, List.map_cons, List.map_nil, List.length_cons, List.length_nil, List.replicate, List.cons_append, List.nil_append, List.append_nil, List.set_cons_zero, List.set_cons_succ, List.getElem?_cons_zero, List.getElem?_cons_succ, Option.some.injEq, V.ref.injEq, V.int.injEq, V.str.injEq, V.bl.injEq, V.ty.injEq, exists_eq_left', exists_eq_left, exists_and_left, List.cons.injEq, and_true, true_and, sc_ii, sc_ss, sc_bb, sc_ni, sc_in, sc_is, sc_si, sc_nn, decide_true, decide_false, reduceCtorEq, Bool.false_eq_true, if_true, if_false, ite_true, ite_false, exists_const, eq_self, false_and, and_false, or_false, false_or, exists_false, Evl.rLenS, rSum, wipe, tYes, exists_eq, exists_eq', rIxL, rIxT, rIxS, exists_and_right, gt_iff_lt, not_true_eq_false, not_false_eq_true, Bool.not_true, Bool.not_false, decide_eq_true_eq, Nat.reduceSub, Nat.reduceAdd, List.append_assoc, tChain, tDIn, tDNotIn, sDDel, tAug, ipI]
            exact ⟨.inl ⟨rfl, _, sq_l hp⟩, .inl ⟨by decide, by decide⟩, _, .inl (sq_l hp), cell, _, rfl, by omega, by rw [List.length_map]; omega, fun r r0 r1 => .inl ⟨r, rfl, by omega, _, hp, sl, s0, ds ++ [r % b], by rw [upd_same, List.map_append]; rfl, more _ (Int.emod_nonneg _ (by omega)) (Int.emod_lt_of_pos _ (by omega)), k1.wr np⟩⟩
        · rintro σ H1 ⟨rest, c7, ds, rfl, s0, hp, hd, k1⟩
          rw [List.length_map, List.take_length] at hd
          try simp (maxSteps := 1000000) only [tSeq, tIfS, tTest, tOp, tUn, tCB, tCons, tNil, tVar, tC, rI0, rI, rU, rEq, rNe, tRet, tRetN, tAsg, gName, gSub, tBM, tBM0, tNext, tB, tNot, tAnd, tOr, tIf, tCall, tDrop, tBreak, tCont, L2.start, tDGet, sDPut, tTup, tLst, tDNewK, tRevL, rCat, rAppend, rPop, rSetL, tAndV, tOrV, tNotV, tSl, tPart, tNoPart, tM1, gTup, gCons, gNil, cxK, cxnK, List.map_cons, List.map_nil, List.length_cons, List.length_nil, List.replicate, List.cons_append, List.nil_append, List.append_nil, List.set_cons_zero, List.set_cons_succ, List.getElem?_cons_zero, List.getElem?_cons_succ, Option.some.injEq, V.ref.injEq, V.int.injEq, V.str.injEq, V.bl.injEq, V.ty.injEq, exists_eq_left', exists_eq_left, exists_and_left, List.cons.injEq, and_true, true_and, sc_ii, sc_ss, sc_bb, sc_ni, sc_in, sc_is, sc_si, sc_nn, decide_true, decide_false, reduceCtorEq, Bool.false_eq_true, if_true, if_false, ite_true, ite_false, exists_const, eq_self, false_and, and_false, or_false, false_or, exists_false, Evl.rLenS, rSum, wipe, tYes, exists_eq, exists_eq', rIxL, rIxT, rIxS, exists_and_right, gt_iff_lt, not_true_eq_false, not_false_eq_true, Bool.not_true, Bool.not_false, decide_eq_true_eq, Nat.reduceSub, Nat.reduceAdd, List.append_assoc, tChain, tDIn, tDNotIn, sDDel, tAug, ipI]
          exact q p ds H1 np hp hd k1
      have len0 : (0 : Int) < (ns.length : Nat) := by omega
      have r0 := Int.emod_nonneg (at_ : Int) (show ((ns.length : Nat) : Int) ≠ 0 by omega)
      have r1 := Int.emod_lt_of_pos (at_ : Int) len0
      obtain ⟨v, hv, ev⟩ := atI_ex (xs := ns.map V.int) r0 (by rw [List.length_map]; exact r1)
      obtain ⟨x, _, rfl⟩ := List.mem_map.mp hv
      refine ⟨_, .inl hS, by rw [List.length_map]; exact len0, _, hS, _, by rw [List.length_map]; exact ev, .inl ⟨x, rfl, _, .inl hS, ?_⟩⟩
      have p18 : CPow 10 18 := ⟨by decide, by decide, by decide⟩
      rw [List.length_map]
      refine ite2 (fun h2 => ?_) (fun h2 => ?_)
      · refine ⟨by decide, p18, Nat.zero_le _, fun p np => ?_⟩
        have r2 : 0 ≤ (if x % 1000003 < 0 then -(x % 1000003) else x % 1000003) := by split <;> omega
        generalize (if x % 1000003 < 0 then -(x % 1000003) else x % 1000003) = rest at r2 ⊢
        generalize x % 1000003 = cell
        generalize decide (10 ^ Int.toNat 18 ≤ rest) = gr
        exact tail p np cell rest gr r2
      · refine ⟨p18, Nat.zero_le _, fun p np => ?_⟩
        have r2 : 0 ≤ (if x < 0 then -x else x) := by split <;> omega
        generalize (if x < 0 then -x else x) = rest at r2 ⊢
        generalize decide (10 ^ Int.toNat 18 ≤ rest) = gr
        exact tail p np x rest gr r2
end
end My

set_option Elab.async false
set_option linter.all false
set_option maxRecDepth 100000
set_option maxHeartbeats 4000000
namespace My
open PySem L2
def tx (cs : List Nat) : Str := ⟨cs.toArray⟩
theorem tx_inj {a b : List Nat} (h : tx a = tx b) : a = b := by
  have e : a.toArray = b.toArray := congrArg Str.cps h
  simpa using e
theorem tx_len (cs : List Nat) : (tx cs).length = cs.length := by
  show cs.toArray.size = _
  simp
theorem tx_list (cs : List Nat) : (tx cs).cps.toList = cs := by
  show cs.toArray.toList = cs
  simp
theorem tx_app (a b : List Nat) : tx a ++ tx b = tx (a ++ b) := by
  show (⟨a.toArray ++ b.toArray⟩ : Str) = ⟨(a ++ b).toArray⟩
  simp
theorem join_ones : ∀ cs : List Nat, Txt.join "" (cs.map fun c => tx [c]) = tx cs := by
  intro cs
  have e := SX.join_S [] (cs.map fun c => [c])
  have e2 : (cs.map fun c => [c]).map SX.S = cs.map fun c => tx [c] := by rw [List.map_map]; rfl
  rw [e2] at e
  have e3 : TL.joinL [] (cs.map fun c => [c]) = cs := by
    clear e e2
    induction cs with
    | nil => rfl
    | cons c r ih =>
      cases r with
      | nil => rfl
      | cons d r =>
        show [c] ++ ([] ++ TL.joinL [] ((d :: r).map fun c => [c])) = c :: d :: r
        rw [ih]; rfl
  rw [e3] at e
  exact e
theorem cutTo (cs : List Nat) (k : Nat) : cutS (tx cs) none (some (k : Int)) = tx (cs.take k) := by
  unfold cutS
  rw [HT.sIx_none, HT.sIx_nat, tx_list, tx_len, List.drop_zero, Nat.sub_zero]
  show tx _ = tx _
  congr 1
  rcases Nat.le_total k cs.length with h | h
  · rw [Nat.min_eq_left h]
  · rw [Nat.min_eq_right h, List.take_length, List.take_of_length_le h]
theorem cutFrom (cs : List Nat) (k : Nat) : cutS (tx cs) (some (k : Int)) none = tx (cs.drop k) := by
  unfold cutS
  rw [HT.sIx_none, HT.sIx_nat, tx_list, tx_len]
  show tx _ = tx _
  congr 1
  rcases Nat.le_total k cs.length with h | h
  · rw [Nat.min_eq_left h, List.take_of_length_le (by rw [List.length_drop]; exact Nat.le_refl _)]
  · rw [Nat.min_eq_right h, List.drop_of_length_le h, List.drop_length]; simp
def vari (cs : List Nat) (s c : Nat) : List Nat := cs.take s ++ ([c] ++ cs.drop (s + 1))
theorem vari_len {cs : List Nat} {s c : Nat} (h : s < cs.length) : (vari cs s c).length = cs.length := by
  simp [vari]; omega
theorem vari_vari {cs : List Nat} {s c d : Nat} (h : s < cs.length) : vari (vari cs s c) s d = vari cs s d := by
  have l : (cs.take s).length = s := by rw [List.length_take]; omega
  unfold vari
  rw [List.take_append_of_le_length (by omega), List.take_of_length_le (by omega)]
  congr 2
  rw [List.drop_append, l, List.drop_of_length_le (by omega), List.nil_append, show s + 1 - s = 1 by omega]; rfl
theorem vari_inj {cs : List Nat} {s c d : Nat} (h : vari cs s c = vari cs s d) : c = d := by
  unfold vari at h
  have := List.append_cancel_left h
  simpa using this
def LowL (cs : List Nat) : Prop := ∀ c ∈ cs, 97 ≤ c ∧ c ≤ 122
theorem vari_low {cs : List Nat} {s c : Nat} (h : LowL cs) (hc : 97 ≤ c ∧ c ≤ 122) : LowL (vari cs s c) := fun d hd => by
  unfold vari at hd
  rcases List.mem_append.mp hd with h1 | h1
  · exact h d (List.mem_of_mem_take h1)
  · rcases List.mem_append.mp h1 with h2 | h2
    · rw [List.mem_singleton.mp h2]; exact hc
    · exact h d (List.mem_of_mem_drop h2)
theorem tx_name {cs : List Nat} (h : LowL cs) (h1 : 1 ≤ cs.length) (h8 : cs.length ≤ 8) : nameS (tx cs) = true := by
  unfold nameS
  rw [tx_len, tx_list, decide_eq_true h1, decide_eq_true h8, Bool.true_and, Bool.true_and, List.all_eq_true]
  intro c hc
  unfold lowC
  rw [decide_eq_true (h c hc).1, decide_eq_true (h c hc).2]; rfl
theorem many {zs : List Str} {cs : List Nat} {s : Nat} (h : ∀ i, i < 25 → tx (vari cs s (97 + i)) ∈ zs) : 25 ≤ zs.length := by
  have nd : ((List.range 25).map fun i => tx (vari cs s (97 + i))).Nodup := by
    unfold List.Nodup
    rw [List.pairwise_map]
    refine List.Pairwise.imp_of_mem ?_ List.pairwise_lt_range
    intro a b _ _ hab e
    have := vari_inj (tx_inj e)
    omega
  have le := List.Nodup.length_le_of_subset nd (l₂ := zs) fun x hx => by
    obtain ⟨i, hi, rfl⟩ := List.mem_map.mp hx
    exact h i (List.mem_range.mp hi)
  rw [List.length_map, List.length_range] at le
  exact le
/-- a test, both ways to one end -/
theorem ifs_both {c : TT} {t u : TS} {D : Ends} {σ : L2.St} {H : Hp} (Pv : L2.St → Hp → Prop) (h : ∀ Dn : Ends, (∀ σ' H', Pv σ' H' → Dn.nx σ' H') → tIfS c t u Dn σ H) (h2 : ∀ σ' H', Pv σ' H' → D.nx σ' H') : tIfS c t u D σ H := h D h2
theorem lcRgN {ta : TA} {g : TG} {tt : TT} {te : TE} {vs : List Nat} {σ : L2.St} {H : Hp} {Q : VK} (m : Nat) (hm : m ≤ 100000) (Pv : Addr → Nat → Hp → Prop) (ht : ∀ R : List V → Hp → Prop, R [.int (m : Nat)] H → ta σ H R) (h0 : ∀ o, H o = none → Pv o 0 (upd H o (.lst [])))
    (step : ∀ o i H', H o = none → i < m → Pv o i H' → g (.int (i : Nat)) (wipe σ vs) H' fun σ2 H2 => wipe σ2 vs = wipe σ vs ∧ tt σ2 H2 fun b H3 => if b = true then te σ2 H3 fun y H4 => ∃ acc, H4 o = some (.lst acc) ∧ acc.length < sizeLine ∧ Pv o (i + 1) (upd H4 o (.lst (acc ++ [y]))) else Pv o (i + 1) H3)
    (fin : ∀ o H', H o = none → Pv o m H' → Q (.ref o) H') : tLc (iRng1 ta) g tt te vs σ H Q :=
  ht _ ⟨(m : Nat), rfl, by omega, by omega, fun o no => lc_range (Pv o) (h0 o no) (fun i H' hi p => by rw [Int.zero_add]; exact step o i H' no (by omega) p) fun H' p => fin o H' no (by rw [Int.toNat_natCast] at p; exact p)⟩
theorem sum_ones : ∀ cs : List Nat, ((cs.map fun c => tx [c]).map fun z => z.length).sum = cs.length
  | [] => rfl
  | c :: r => by
    show (tx [c]).length + ((r.map fun c => tx [c]).map fun z => z.length).sum = r.length + 1
    rw [sum_ones r, tx_len]
    show 1 + r.length = _
    omega
theorem inV_str {z : Str} : ∀ {ks : List Str}, inV (.str z) (ks.map V.str) = decide (z ∈ ks)
  | [] => rfl
  | k :: ks => by
    have e : inV (.str z) ((k :: ks).map V.str) = ((k == z) || inV (.str z) (ks.map V.str)) := rfl
    rw [e, inV_str (ks := ks)]
    by_cases h : k = z
    · rw [h, beq_self_eq_true, Bool.true_or, decide_eq_true List.mem_cons_self]
    · rw [beq_eq_false_iff_ne.mpr h, Bool.false_or]
      refine decide_eq_decide.mpr ⟨fun q => List.mem_cons_of_mem _ q, fun q => ?_⟩
      rcases List.mem_cons.mp q with q | q
      · exact absurd q.symm h
      · exact q
theorem flat_strs {ks : List Str} : (ks.map V.str).all flatV = true := by
  rw [List.all_map, List.all_eq_true]
  intro _ _; rfl
theorem lets_at : ∀ i : Nat, i < 26 → lets.cps.toList[i]? = some (97 + i) := by decide +kernel
end My

set_option Elab.async false
set_option linter.all false
set_option maxRecDepth 100000
set_option maxHeartbeats 4000000
namespace My
open PySem L2 NdefX
abbrev s_law_names : Stmt := top 30
theorem sc_law_names : FnScope ["_law_script", "_law_at", "_law_many", "_law_letters", "_law_spots", "_law_found", "_law_k", "_law_row", "_law_word", "_law_j", "_law_spot", "_law_letter"] ["_law_script", "_law_at", "_law_many"] (defScope s_law_names) := ⟨rfl, rfl, rfl, by decide +kernel, rfl, by decide +kernel, by decide +kernel⟩
structure BtN (mg : Str → Option Value) : Prop where
  b_int : mg "int" = none
  b_len : mg "len" = none
  b_range : mg "range" = none
def bsN (n : Nat) : List Int := [3, 8] ++ (List.replicate n [8, 26, 26, 26]).flatten
theorem bsN_len {n : Nat} : (bsN n).length = 2 + 4 * n := by
  unfold bsN
  simp; omega
theorem bsN_ok {n : Nat} : ∀ b ∈ bsN n, 1 ≤ b ∧ b ≤ 1000000000 := by
  intro b hb
  unfold bsN at hb
  rcases List.mem_append.mp hb with h | h
  · rcases List.mem_cons.mp h with rfl | h
    · decide
    · rcases List.mem_cons.mp h with rfl | h
      · decide
      · cases h
  · obtain ⟨l, hl, hb⟩ := List.mem_flatten.mp h
    rw [(List.mem_replicate.mp hl).2] at hb
    simp at hb
    rcases hb with rfl | rfl <;> decide
theorem fl_at {n : Nat} : ∀ {k j : Nat} {b : Int}, k < n → ([8, 26, 26, 26] : List Int)[j]? = some b → (List.replicate n ([8, 26, 26, 26] : List Int)).flatten[4 * k + j]? = some b := by
  induction n with
  | zero => intro k j b h; omega
  | succ n ih =>
    intro k j b hk hj
    have hj4 : j < 4 := (List.getElem?_eq_some_iff.mp hj).1
    rw [List.replicate_succ, List.flatten_cons]
    cases k with
    | zero => rw [Nat.mul_zero, Nat.zero_add, List.getElem?_append_left hj4]; exact hj
    | succ k =>
      rw [List.getElem?_append_right (by show 4 ≤ _; omega), show 4 * (k + 1) + j - ([8, 26, 26, 26] : List Int).length = 4 * k + j by show 4 * (k + 1) + j - 4 = _; omega]
      exact ih (by omega) hj
theorem bsN_at {n k j : Nat} {b : Int} (hk : k < n) (hj : ([8, 26, 26, 26] : List Int)[j]? = some b) : (bsN n)[2 + 4 * k + j]? = some b := by
  unfold bsN
  rw [List.getElem?_append_right (by show 2 ≤ _; omega), show 2 + 4 * k + j - ([3, 8] : List Int).length = 4 * k + j by show 2 + 4 * k + j - 2 = _; omega]
  exact fl_at hk hj
/-- four drawn numbers of the k-th name -/
theorem draw4 {n k : Nat} {ds : List Int} (h : DrawOk (bsN n) ds) (hk : k < n) : ∃ w x y v : Int, (ds.drop (2 + 4 * k)).take 4 = [w, x, y, v] ∧ (0 ≤ w ∧ w < 8) ∧ (0 ≤ x ∧ x < 26) ∧ (0 ≤ y ∧ y < 26) ∧ (0 ≤ v ∧ v < 26) := by
  have len : ds.length = 2 + 4 * n := by rw [h.1, bsN_len]
  have at_ : ∀ j b, ([8, 26, 26, 26] : List Int)[j]? = some b → ∃ d, ds[2 + 4 * k + j]? = some d ∧ 0 ≤ d ∧ d < b := fun j b e => by
    have hj4 : j < 4 := (List.getElem?_eq_some_iff.mp e).1
    have lt : 2 + 4 * k + j < ds.length := by omega
    exact ⟨ds[2 + 4 * k + j], List.getElem?_eq_getElem lt, h.2 _ _ b (List.getElem?_eq_getElem lt) (bsN_at hk e)⟩
  obtain ⟨w, e0, b0⟩ := at_ 0 8 rfl
  obtain ⟨x, e1, b1⟩ := at_ 1 26 rfl
  obtain ⟨y, e2, b2⟩ := at_ 2 26 rfl
  obtain ⟨v, e3, b3⟩ := at_ 3 26 rfl
  refine ⟨w, x, y, v, ?_, b0, b1, b2, b3⟩
  refine List.ext_getElem? fun i => ?_
  rw [List.getElem?_take]
  rcases (show i = 0 ∨ i = 1 ∨ i = 2 ∨ i = 3 ∨ 4 ≤ i by omega) with rfl | rfl | rfl | rfl | h4
  · rw [if_pos (by decide), List.getElem?_drop]; exact e0
  · rw [if_pos (by decide), List.getElem?_drop]; exact e1
  · rw [if_pos (by decide), List.getElem?_drop]; exact e2
  · rw [if_pos (by decide), List.getElem?_drop]; exact e3
  · rw [if_neg (by omega), List.getElem?_eq_none (by show 4 ≤ i; exact h4)]
section
variable {P : Program} {w : World} {K : PySem.W.Frag} {mg : Str → Option Value} {base : Heap}
def spNames (K : PySem.W.Frag) : Sp := fun vs H Q _ => ∃ (a : Addr) (at_ n : Nat) (ns : List Int), vs = [.ref a, .int (at_ : Nat), .int (n : Nat)] ∧ Scr K H a ns ∧ at_ ≤ 1000 ∧ 1 ≤ n ∧ n ≤ 20 ∧
  ∀ (r : Addr) (zs : List Str) (H' : Hp), H r = none → H' r = some (.lst (zs.map V.str)) → zs.length = n → (∀ z ∈ zs, nameS z = true) → zs.Nodup → Kp [] H H' → Q (.ref r) H'
theorem ok_law_names {f : Addr} {fd : FuncData} (D : Df K mg "_law_names" s_law_names ["_law_script", "_law_at", "_law_many"] f fd) (T : BtN mg) {fg : Addr} {fdg : FuncData} (D_law_draws : Df K mg "_law_draws" s_law_draws ["_law_script", "_law_at", "_law_bounds"] fg fdg) (G_law_draws : FnOk P w K mg base CX0 2 fg fdg ["_law_script", "_law_at", "_law_bounds"] (spDraws K)) : FnOk P w K mg base CX0 3 f fd ["_law_script", "_law_at", "_law_many"] (spNames K) := by
  refine D.F.ok sc_law_names (fun vs H Q E h => ?_) (fun cdv A outer s H vs Q E hr h => ?_)
  · obtain ⟨a, at_, n, ns, rfl, _⟩ := h
    rfl
  · obtain ⟨a, at_, n, ns, rfl, hS, a1, n1, n2, q⟩ := h
    have hu := hu_of hr
    refine ⟨_, (pss_cons (ps_set (i := 3) sc_law_names.nd rfl (Or.inr rfl) pe_str)
      (pss_cons (ps_set (i := 4) sc_law_names.nd rfl (Or.inl rfl) (pe_call G_law_draws (hr.mono (by decide)) rfl D_law_draws.g D_law_draws.F.kp D_law_draws.b .nil pass0 (pa_cons (pv 0) (pa_cons (pv 1) (pa_cons (pe_op op_cat (pe_lst (pa_cons pe_int (pa_cons pe_int pa_nil))) (pe_op op_rep (pe_lst (pa_cons pe_int (pa_cons pe_int (pa_cons pe_int (pa_cons pe_int pa_nil))))) (pv 2))) pa_nil)))))
      (pss_cons (ps_set (i := 5) sc_law_names.nd rfl (Or.inl rfl) (pe_lst pa_nil))
      (pss_cons (ps_for PassesOwn.never rfl (pi_range1 rfl T.b_range (pa_cons (pv 2) pa_nil)) (pg_name (i := 6) sc_law_names.nd rfl (Or.inl rfl)) (pss_cons (ps_set (i := 7) sc_law_names.nd rfl (Or.inr rfl) (pe_slice sl_list (pv 4) (po_some (pe_op op_add pe_int (pe_op op_mul pe_int (pv 6)))) (po_some (pe_op op_add pe_int (pe_op op_mul pe_int (pv 6))))))
      (pss_cons (ps_if (pt_cmpR op_eq (pe_ix (r := rIxL K) ix_list (pv 4) pe_int (fun _ _ => rfl)) pe_int (nomark _)) (pss_one (ps_set (i := 7) sc_law_names.nd rfl (Or.inr rfl) (pe_slice sl_list (pv 4) (po_some pe_int) (po_some pe_int)))) pss_nil)
      (pss_cons (ps_set (i := 8) sc_law_names.nd rfl (Or.inl rfl) (pe_join pe_str (pe_lc (own := [("_law_j", 9)]) (g := (gName 9)) (tt := tYes) rfl sc_law_names.nd (pi_range1 rfl T.b_range (pa_cons (pe_op op_add (pe_ix (r := rIxL K) ix_list (pv 7) pe_int (fun _ _ => rfl)) pe_int) pa_nil)) (blkOk_by (N := ["_law_script", "_law_at", "_law_many", "_law_letters", "_law_spots", "_law_found", "_law_k", "_law_row", "_law_word", "_law_j", "_law_spot", "_law_letter"]) (sc := defScope s_law_names) (by decide +kernel)) (fun _ _ _ _ _ => (pg_name (i := 9) sc_law_names.nd rfl (Or.inl rfl))) (fun _ _ _ _ _ => pts_nil) (fun _ _ _ _ _ => (pe_ix ix_str (pv 3) (pe_ix (r := rIxL K) ix_list (pv 7) (pe_op op_add pe_int (pe_op op_mod (pe_callTy (T := "int") call_int1 (by rfl) T.b_int (by decide +kernel) (pa_cons (pv 9) pa_nil)) pe_int)) (fun _ _ => rfl)) (fun _ _ => rfl))))))
      (pss_cons (ps_set (i := 10) sc_law_names.nd rfl (Or.inl rfl) (pe_op op_mod (pe_callTy (T := "int") call_int1 (by rfl) T.b_int (by decide +kernel) (pa_cons (pe_ix (r := rIxL K) ix_list (pv 4) pe_int (fun _ _ => rfl)) pa_nil)) (pe_callB (id := "len") call_len_str (by rfl) T.b_len PySem.boot_len (pa_cons (pv 8) pa_nil))))
      (pss_cons (ps_for PassesOwn.never rfl (pi_str (pv 3)) (pg_name (i := 11) sc_law_names.nd rfl (Or.inl rfl)) (pss_one (ps_if (pt_cmpR op_in_seq (pv 8) (pv 5) (by rfl)) (pss_one (ps_set (i := 8) sc_law_names.nd rfl (Or.inl rfl) (pe_op op_add_str (pe_op op_add_str (pe_slice sl_str (pv 8) po_none (po_some (pv 10))) (pv 11)) (pe_slice sl_str (pv 8) (po_some (pe_op op_add (pv 10) pe_int)) po_none)))) pss_nil)))
      (pss_one (ps_expr (pe_bm PySem.F.plainAttrs_list PySem.F.slot_list_append PySem.F.type_list_append mt_append (pv 5) (pa_cons (pv 8) pa_nil))))))))))
      (pss_one (ps_ret (pv 5))))))), ?_⟩
    try simp (maxSteps := 1000000) only [tSeq, tIfS, tTest, tOp, tUn, tCB, tCons, tNil, tVar, tC, rI0, rI, rU, rEq, rNe, tRet, tRetN, tAsg, gName, gSub, tBM, tBM0, tNext, tB, tNot, tAnd, tOr, tIf, tCall, tDrop, tBreak, tCont, L2.start, tDGet, sDPut, tTup, tLst, tDNewK, tRevL, rCat, rAppend, rPop, rSetL, tAndV, tOrV, tNotV, tSl, tPart, tNoPart, tM1, gTup, gCons, gNil, cxK, cxnK, List.map_cons, List.map_nil, List.length_cons, List.length_nil, List.replicate, List.cons_append, List.nil_append, List.append_nil, List.set_cons_zero, List.set_cons_succ, List.getElem?_cons_zero, List.getElem?_cons_succ, Option.some.injEq, V.ref.injEq, V.int.injEq, V.str.injEq, V.bl.injEq, V.ty.injEq, exists_eq_left', exists_eq_left, exists_and_left, List.cons.injEq, and_true, true_and, sc_ii, sc_ss, sc_bb, sc_ni, sc_in, sc_is, sc_si, sc_nn, decide_true, decide_false, reduceCtorEq, Bool.false_eq_true, if_true, if_false, ite_true, ite_false, exists_const, eq_self, false_and, and_false, or_false, false_or, exists_false, Evl.rLenS, rSum, wipe, tYes, exists_eq, exists_eq', rIxL, rIxT, rIxS, exists_and_right, gt_iff_lt, not_true_eq_false, not_false_eq_true, Bool.not_true, Bool.not_false, decide_eq_true_eq, Nat.reduceSub, Nat.reduceAdd, List.append_assoc, tChain, tDIn, tDNotIn, sDDel, tAug, ipI, rRep]
    refine ⟨by decide, fun p np => ⟨by decide, fun p1 np1 => ⟨_, upd_same, by omega, by omega, ?_, fun p2 np2 => ?_⟩⟩⟩
    · rw [Int.toNat_natCast]
      have := (smallL (n := 4 * n) (by omega))
      show 4 * n ≤ sizeLine
      omega
    rw [Int.toNat_natCast]
    have k1 : Kp [] H (upd H p (.lst [.int 3, .int 8])) := Kp.new np
    have k2 := k1.trans (Kp.new np1 (o := .lst [.int 8, .int 26, .int 26, .int 26]))
    have hp : (upd (upd H p (.lst [.int 3, .int 8])) p1 (.lst [.int 8, .int 26, .int 26, .int 26])) p = some (.lst [.int 3, .int 8]) := by rw [upd_ne (ne_of_none upd_same np1)]; exact upd_same
    generalize (upd (upd H p (.lst [.int 3, .int 8])) p1 (.lst [.int 8, .int 26, .int 26, .int 26])) = H2 at k2 hp np2 ⊢
    refine ⟨_, by rw [upd_ne (ne_of_none hp np2)]; exact hp, _, upd_same, ?_, fun p3 np3 => ?_⟩
    · have := (smallL (n := 4 * n + 2) (by omega))
      simp
      omega
    have k3 := k2.trans (Kp.new np2 (o := .lst (List.replicate n [V.int 8, .int 26, .int 26, .int 26]).flatten))
    have k4 := k3.trans (Kp.new np3 (o := .lst ([V.int 3, .int 8] ++ (List.replicate n [V.int 8, .int 26, .int 26, .int 26]).flatten)))
    have bsV : [V.int 3, .int 8] ++ (List.replicate n [V.int 8, .int 26, .int 26, .int 26]).flatten = (bsN n).map V.int := by
      unfold bsN
      rw [List.map_append, List.map_flatten, List.map_replicate]; rfl
    rw [bsV] at k4 ⊢
    refine ⟨a, p3, at_, ns, bsN n, rfl, ⟨k4.trans (Kp.refl _ _) |>.ls not0 hS.1, hS.2⟩, a1, upd_same, by rw [bsN_len]; omega, bsN_ok, fun s ds H5 ns5 hs hd k5 => ?_⟩
    generalize (upd (upd H2 p2 (.lst (List.replicate n [V.int 8, .int 26, .int 26, .int 26]).flatten)) p3 (.lst ((bsN n).map V.int))) = H4 at k4 ns5 k5 ⊢
    refine ⟨Nat.zero_le _, fun f nf => ?_⟩
    have k6 : Kp [] H (upd H5 f (.lst [])) := (k4.trans k5).trans (Kp.new nf)
    have nf0 : H f = none := (k4.trans k5).free0 nf
    refine forRg n (fun j σ H' => ∃ (c6 c7 c8 c9 c10 c11 : Option V) (zs : List Str), σ = [some (.ref a), some (.int (at_ : Nat)), some (.int (n : Nat)), some (.str lets), some (.ref s), some (.ref f), c6, c7, c8, c9, c10, c11] ∧ H' f = some (.lst (zs.map V.str)) ∧ zs.length = j ∧ (∀ z ∈ zs, nameS z = true) ∧ zs.Nodup ∧ Kp [] H5 H' ∧ Kp [] H H') ?_ (by omega) (by omega) ?_ ?_ ?_
    · intro R q
      exact ⟨_, rfl, q⟩
    · exact ⟨none, none, none, none, none, none, [], rfl, upd_same, rfl, (fun z h => nomatch h), List.nodup_nil, Kp.new nf, k6⟩
    · intro j σ H6 hj h6
      obtain ⟨c6, c7, c8, c9, c10, c11, zs, rfl, hf, hl, hn, nd, k7, k8⟩ := h6
      have hs6 := k7 _ _ not0 hs
      try simp (maxSteps := 1000000) only [tSeq, tTest, tOp, tUn, tCB, tCons, tNil, tVar, tC, rI0, rI, rU, rEq, rNe, tRet, tRetN, tAsg, gName, gSub, tBM, tBM0, tNext, tB, tNot, tAnd, tOr, tIf, tCall, tDrop, tBreak, tCont, L2.start, tDGet, sDPut, tTup, tLst, tDNewK, tRevL, rCat, rAppend, rPop, rSetL, tAndV, tOrV, tNotV, tSl, tPart, tNoPart, tM1, gTup, gCons, gNil, cxK, cxnK, List.map_cons, List.map_nil, List.length_cons, List.length_nil, List.replicate, List.cons_append, List.nil_append, List.append_nil, List.set_cons_zero, List.set_cons_succ, List.getElem?_cons_zero, List.getElem?_cons_succ, Option.some.injEq, V.ref.injEq, V.int.injEq, V.str.injEq, V.bl.injEq, V.ty.injEq, exists_eq_left', exists_eq_left, exists_and_left, List.cons.injEq, and_true, true_and, sc_ii, sc_ss, sc_bb, sc_ni, sc_in, sc_is, sc_si, sc_nn, decide_true, decide_false, reduceCtorEq, Bool.false_eq_true, if_true, if_false, ite_true, ite_false, exists_const, eq_self, false_and, and_false, or_false, false_or, exists_false, Evl.rLenS, rSum, wipe, tYes, exists_eq, exists_eq', rIxL, rIxT, rIxS, exists_and_right, gt_iff_lt, not_true_eq_false, not_false_eq_true, Bool.not_true, Bool.not_false, decide_eq_true_eq, Nat.reduceSub, Nat.reduceAdd, List.append_assoc, tChain, tDIn, tDNotIn, sDDel, tAug, ipI]
      refine ⟨.inl ⟨by decide, by decide⟩, .inl ⟨by decide, by decide⟩, s, _, rfl, sq_l hs6, fun R nR => ?_⟩
      have kR : Kp [] H6 (upd H6 R (.lst (cutV (ds.map V.int) (some (2 + 4 * (j : Int))) (some (6 + 4 * (j : Int)))))) := Kp.new nR
      have cut4 : ∀ k : Nat, cutV (ds.map V.int) (some ((2 + 4 * k : Nat) : Int)) (some ((6 + 4 * k : Nat) : Int)) = ((ds.drop (2 + 4 * k)).take 4).map V.int := by
        intro k
        unfold cutV
        rw [HT.sIx_nat, HT.sIx_nat, List.length_map, ← List.map_drop, ← List.map_take]
        congr 1
        rcases Nat.le_total (2 + 4 * k) ds.length with z | z
        · rw [Nat.min_eq_left z]
          rcases Nat.le_total (6 + 4 * k) ds.length with z2 | z2
          · rw [Nat.min_eq_left z2, show 6 + 4 * k - (2 + 4 * k) = 4 by omega]
          · rw [Nat.min_eq_right z2, List.take_of_length_le (by rw [List.length_drop]; omega), List.take_of_length_le (by rw [List.length_drop]; omega)]
        · rw [Nat.min_eq_right z, List.drop_length, List.drop_of_length_le z]; simp
      have eR : (upd H6 R (.lst (cutV (ds.map V.int) (some (2 + 4 * (j : Int))) (some (6 + 4 * (j : Int)))))) R = some (.lst (((ds.drop (2 + 4 * j)).take 4).map V.int)) := by
        rw [upd_same]
        have := cut4 j
        rw [show ((2 + 4 * j : Nat) : Int) = 2 + 4 * (j : Int) by omega, show ((6 + 4 * j : Nat) : Int) = 6 + 4 * (j : Int) by omega] at this
        rw [this]
      generalize (upd H6 R (.lst (cutV (ds.map V.int) (some (2 + 4 * (j : Int))) (some (6 + 4 * (j : Int)))))) = H7 at kR eR ⊢
      have dlen : ds.length = 2 + 4 * n := by rw [hd.1, bsN_len]
      refine ifs_both (fun σ' H' => ∃ (R : Addr) (w x y v : Int), σ' = [some (.ref a), some (.int (at_ : Nat)), some (.int (n : Nat)), some (.str lets), some (.ref s), some (.ref f), some (.int (j : Nat)), some (.ref R), c8, c9, c10, c11] ∧ H' R = some (.lst [.int w, .int x, .int y, .int v]) ∧ (0 ≤ w ∧ w < 8) ∧ (0 ≤ x ∧ x < 26) ∧ (0 ≤ y ∧ y < 26) ∧ (0 ≤ v ∧ v < 26) ∧ Kp [] H6 H') (fun Dn q2 => ?_) ?_
      · have hs7 := kR _ _ not0 hs6
        obtain ⟨d0, e0⟩ : ∃ d, ds[0]? = some d := ⟨ds[0]'(by omega), List.getElem?_eq_getElem _⟩
        have e0' : (ds.map V.int)[0]? = some (.int d0) := by rw [List.getElem?_map, e0]; rfl
        try simp (maxSteps := 1000000) only [tSeq, tIfS, tTest, tOp, tUn, tCB, tCons, tNil, tVar, tC, rI0, rI, rU, rEq, rNe, tRet, tRetN, tAsg, gName, gSub, tBM, tBM0, tNext, tB, tNot, tAnd, tOr, tIf, tCall, tDrop, tBreak, tCont, L2.start, tDGet, sDPut, tTup, tLst, tDNewK, tRevL, rCat, rAppend, rPop, rSetL, tAndV, tOrV, tNotV, tSl, tPart, tNoPart, tM1, gTup, gCons, gNil, cxK, cxnK, List.map_cons, List.map_nil, List.length_cons, List.length_nil, List.replicate, List.cons_append, List.nil_append, List.append_nil, List.set_cons_zero, List.set_cons_succ, List.getElem?_cons_zero, List.getElem?_cons_succ, Option.some.injEq, V.ref.injEq, V.int.injEq, V.str.injEq, V.bl.injEq, V.ty.injEq, exists_eq_left', exists_eq_left, exists_and_left, List.cons.injEq, and_true, true_and, sc_ii, sc_ss, sc_bb, sc_ni, sc_in, sc_is, sc_si, sc_nn, decide_true, decide_false, reduceCtorEq, Bool.false_eq_true, if_true, if_false, ite_true, ite_false, exists_const, eq_self, false_and, and_false, or_false, false_or, exists_false, Evl.rLenS, rSum, wipe, tYes, exists_eq, exists_eq', rIxL, rIxT, rIxS, exists_and_right, gt_iff_lt, not_true_eq_false, not_false_eq_true, Bool.not_true, Bool.not_false, decide_eq_true_eq, Nat.reduceSub, Nat.reduceAdd, List.append_assoc, tChain, tDIn, tDNotIn, sDDel, tAug, ipI]
        refine ⟨_, sq_l hs7, .int d0, atI_of (by decide) e0', ?_⟩
        try simp (maxSteps := 1000000) only [tSeq, tIfS, tTest, tOp, tUn, tCB, tCons, tNil, tVar, tC, rI0, rI, rU, rEq, rNe, tRet, tRetN, tAsg, gName, gSub, tBM, tBM0, tNext, tB, tNot, tAnd, tOr, tIf, tCall, tDrop, tBreak, tCont, L2.start, tDGet, sDPut, tTup, tLst, tDNewK, tRevL, rCat, rAppend, rPop, rSetL, tAndV, tOrV, tNotV, tSl, tPart, tNoPart, tM1, gTup, gCons, gNil, cxK, cxnK, List.map_cons, List.map_nil, List.length_cons, List.length_nil, List.replicate, List.cons_append, List.nil_append, List.append_nil, List.set_cons_zero, List.set_cons_succ, List.getElem?_cons_zero, List.getElem?_cons_succ, Option.some.injEq, V.ref.injEq, V.int.injEq, V.str.injEq, V.bl.injEq, V.ty.injEq, exists_eq_left', exists_eq_left, exists_and_left, List.cons.injEq, and_true, true_and, sc_ii, sc_ss, sc_bb, sc_ni, sc_in, sc_is, sc_si, sc_nn, decide_true, decide_false, reduceCtorEq, Bool.false_eq_true, if_true, if_false, ite_true, ite_false, exists_const, eq_self, false_and, and_false, or_false, false_or, exists_false, Evl.rLenS, rSum, wipe, tYes, exists_eq, exists_eq', rIxL, rIxT, rIxS, exists_and_right, gt_iff_lt, not_true_eq_false, not_false_eq_true, Bool.not_true, Bool.not_false, decide_eq_true_eq, Nat.reduceSub, Nat.reduceAdd, List.append_assoc, tChain, tDIn, tDNotIn, sDDel, tAug, ipI]
        refine ite2 (fun h1 => ?_) (fun h1 => ?_)
        · refine ⟨s, _, rfl, sq_l hs7, fun R2 nR2 => q2 _ _ ?_⟩
          obtain ⟨w, x, y, v, e4, b⟩ := draw4 hd (k := 0) (by omega)
          refine ⟨R2, w, x, y, v, rfl, ?_, b.1, b.2.1, b.2.2.1, b.2.2.2, kR.trans (Kp.new nR2)⟩
          rw [upd_same]
          have := cut4 0
          rw [e4] at this
          exact congrArg (fun l => some (HO.lst l)) this
        · obtain ⟨w, x, y, v, e4, b⟩ := draw4 hd hj
          refine q2 _ _ ⟨R, w, x, y, v, rfl, ?_, b.1, b.2.1, b.2.2.1, b.2.2.2, kR⟩
          rw [eR, e4]; rfl
      clear eR kR nR
      clear R H7
      rintro σ H7 ⟨R, w, x, y, v, rfl, hR, w0, x0, y0, v0, k67⟩
      try simp (maxSteps := 1000000) only [tSeq, tTest, tOp, tUn, tCB, tCons, tNil, tVar, tC, rI0, rI, rU, rEq, rNe, tRet, tRetN, tAsg, gName, gSub, tBM, tBM0, tNext, tB, tNot, tAnd, tOr, tIf, tCall, tDrop, tBreak, tCont, L2.start, tDGet, sDPut, tTup, tLst, tDNewK, tRevL, rCat, rAppend, rPop, rSetL, tAndV, tOrV, tNotV, tSl, tPart, tNoPart, tM1, gTup, gCons, gNil, cxK, cxnK, List.map_cons, List.map_nil, List.length_cons, List.length_nil, List.replicate, List.cons_append, List.nil_append, List.append_nil, List.set_cons_zero, List.set_cons_succ, List.getElem?_cons_zero, List.getElem?_cons_succ, Option.some.injEq, V.ref.injEq, V.int.injEq, V.str.injEq, V.bl.injEq, V.ty.injEq, exists_eq_left', exists_eq_left, exists_and_left, List.cons.injEq, and_true, true_and, sc_ii, sc_ss, sc_bb, sc_ni, sc_in, sc_is, sc_si, sc_nn, decide_true, decide_false, reduceCtorEq, Bool.false_eq_true, if_true, if_false, ite_true, ite_false, exists_const, eq_self, false_and, and_false, or_false, false_or, exists_false, Evl.rLenS, rSum, wipe, tYes, exists_eq, exists_eq', rIxL, rIxT, rIxS, exists_and_right, gt_iff_lt, not_true_eq_false, not_false_eq_true, Bool.not_true, Bool.not_false, decide_eq_true_eq, Nat.reduceSub, Nat.reduceAdd, List.append_assoc, tChain, tDIn, tDNotIn, sDDel, tAug, ipI]
      have w1 : (w + 1).toNat = w.toNat + 1 := by omega
      have hs7 := k67 _ _ not0 hs6
      obtain ⟨d1, e1⟩ : ∃ d, ds[1]? = some d := ⟨ds[1]'(by omega), List.getElem?_eq_getElem _⟩
      have e1' : (ds.map V.int)[1]? = some (.int d1) := by rw [List.getElem?_map, e1]; rfl
      refine lcRgN (w.toNat + 1) (by omega) (fun D i H' => ∃ cs, H' D = some (.lst ((cs.map fun c => tx [c]).map V.str)) ∧ cs.length = i ∧ LowL cs ∧ Kp [] H7 H') ?_ ?_ ?_ ?_
      · intro R' q'
        have ew : w + 1 = ((w.toNat + 1 : Nat) : Int) := by omega
        rw [← ew] at q'
        try simp (maxSteps := 1000000) only [tSeq, tIfS, tTest, tOp, tUn, tCB, tCons, tNil, tVar, tC, rI0, rI, rU, rEq, rNe, tRet, tRetN, tAsg, gName, gSub, tBM, tBM0, tNext, tB, tNot, tAnd, tOr, tIf, tCall, tDrop, tBreak, tCont, L2.start, tDGet, sDPut, tTup, tLst, tDNewK, tRevL, rCat, rAppend, rPop, rSetL, tAndV, tOrV, tNotV, tSl, tPart, tNoPart, tM1, gTup, gCons, gNil, cxK, cxnK, List.map_cons, List.map_nil, List.length_cons, List.length_nil, List.replicate, List.cons_append, List.nil_append, List.append_nil, List.set_cons_zero, List.set_cons_succ, List.getElem?_cons_zero, List.getElem?_cons_succ, Option.some.injEq, V.ref.injEq, V.int.injEq, V.str.injEq, V.bl.injEq, V.ty.injEq, exists_eq_left', exists_eq_left, exists_and_left, List.cons.injEq, and_true, true_and, sc_ii, sc_ss, sc_bb, sc_ni, sc_in, sc_is, sc_si, sc_nn, decide_true, decide_false, reduceCtorEq, Bool.false_eq_true, if_true, if_false, ite_true, ite_false, exists_const, eq_self, false_and, and_false, or_false, false_or, exists_false, Evl.rLenS, rSum, wipe, tYes, exists_eq, exists_eq', rIxL, rIxT, rIxS, exists_and_right, gt_iff_lt, not_true_eq_false, not_false_eq_true, Bool.not_true, Bool.not_false, decide_eq_true_eq, Nat.reduceSub, Nat.reduceAdd, List.append_assoc, tChain, tDIn, tDNotIn, sDDel, tAug, ipI]
        exact ⟨_, sq_l hR, .int w, atI_of (by decide) rfl, _, rfl, q'⟩
      · intro D nD
        exact ⟨[], upd_same, rfl, (fun c h => nomatch h), Kp.new nD⟩
      · intro D i H' nD hi hP
        obtain ⟨cs, hD, hlen, low, k7'⟩ := hP
        have hR' := k7' _ _ not0 hR
        try simp (maxSteps := 1000000) only [tSeq, tIfS, tTest, tOp, tUn, tCB, tCons, tNil, tVar, tC, rI0, rI, rU, rEq, rNe, tRet, tRetN, tAsg, gName, gSub, tBM, tBM0, tNext, tB, tNot, tAnd, tOr, tIf, tCall, tDrop, tBreak, tCont, L2.start, tDGet, sDPut, tTup, tLst, tDNewK, tRevL, rCat, rAppend, rPop, rSetL, tAndV, tOrV, tNotV, tSl, tPart, tNoPart, tM1, gTup, gCons, gNil, cxK, cxnK, List.map_cons, List.map_nil, List.length_cons, List.length_nil, List.replicate, List.cons_append, List.nil_append, List.append_nil, List.set_cons_zero, List.set_cons_succ, List.getElem?_cons_zero, List.getElem?_cons_succ, Option.some.injEq, V.ref.injEq, V.int.injEq, V.str.injEq, V.bl.injEq, V.ty.injEq, exists_eq_left', exists_eq_left, exists_and_left, List.cons.injEq, and_true, true_and, sc_ii, sc_ss, sc_bb, sc_ni, sc_in, sc_is, sc_si, sc_nn, decide_true, decide_false, reduceCtorEq, Bool.false_eq_true, if_true, if_false, ite_true, ite_false, exists_const, eq_self, false_and, and_false, or_false, false_or, exists_false, Evl.rLenS, rSum, wipe, tYes, exists_eq, exists_eq', rIxL, rIxT, rIxS, exists_and_right, gt_iff_lt, not_true_eq_false, not_false_eq_true, Bool.not_true, Bool.not_false, decide_eq_true_eq, Nat.reduceSub, Nat.reduceAdd, List.append_assoc, tChain, tDIn, tDNotIn, sDDel, tAug, ipI]
        obtain ⟨u, eu, u0, u1⟩ : ∃ u : Int, atI [V.int w, .int x, .int y, .int v] (1 + (i : Int) % 3) = some (.int u) ∧ 0 ≤ u ∧ u < 26 := by
          rcases (show (i : Int) % 3 = 0 ∨ (i : Int) % 3 = 1 ∨ (i : Int) % 3 = 2 by omega) with e | e | e <;> rw [e]
          · exact ⟨x, rfl, x0⟩
          · exact ⟨y, rfl, y0⟩
          · exact ⟨v, rfl, v0⟩
        have l26 : lets.length ≤ sizeLine := by
          have := smallL (n := 26) (by decide)
          show 26 ≤ _
          omega
        refine ⟨by decide, _, sq_l hR', _, eu, u, rfl, l26, 97 + u.toNat, atI_of u0 (lets_at u.toNat (by omega)), _, hD, smallL (by rw [List.length_map, List.length_map]; omega), cs ++ [97 + u.toNat], by rw [upd_same, List.map_append, List.map_append]; rfl, by rw [List.length_append, hlen]; rfl, fun c hc => ?_, k7'.wr nD⟩
        rcases List.mem_append.mp hc with h | h
        · exact low c h
        · rw [List.mem_singleton.mp h]; omega
      · intro D H8 nD hP
        obtain ⟨cs, hD, hlen, low, k78⟩ := hP
        refine ⟨D, rfl, cs.map fun c => tx [c], .inl (sq_l hD), ?_, _, sq_l (k78 _ _ not0 hs7), _, atI_of (by decide) e1', .inl ⟨d1, rfl, ?_⟩⟩
        · rw [sum_ones, List.length_map]
          show _ + _ * 0 ≤ _
          omega
        have ej : Txt.join (Str.ofString "") (cs.map fun c => tx [c]) = tx cs := join_ones cs
        rw [ej, tx_len]
        refine ⟨?_, by omega, ?_⟩
        · have := (smallL (n := cs.length) (by omega))
          omega
        have d10 := (hd.2 1 d1 8 e1 rfl).1
        have sp0 := Int.emod_nonneg d1 (show ((cs.length : Nat) : Int) ≠ 0 by omega)
        have sp1 := Int.emod_lt_of_pos d1 (show (0 : Int) < (cs.length : Nat) by omega)
        obtain ⟨sp, esp⟩ := Int.eq_ofNat_of_zero_le sp0
        rw [esp] at sp1 ⊢
        have spl : sp < cs.length := by omega
        have k68 := k67.trans k78
        have hf8 := k68 _ _ not0 hf
        have s26 : lets.cps.size = 26 := by decide +kernel
        refine ⟨.str lets, rfl, lets, rfl, for_it (walk_str (z := lets)) (fun i σ H' => ∃ cs' c11', σ = [some (.ref a), some (.int (at_ : Nat)), some (.int (n : Nat)), some (.str lets), some (.ref s), some (.ref f), some (.int (j : Nat)), some (.ref R), some (.str (tx cs')), c9, some (.int (sp : Nat)), c11'] ∧ cs'.length = cs.length ∧ LowL cs' ∧ (∀ c, vari cs' sp c = vari cs sp c) ∧ (tx cs' ∈ zs → (∀ i', i' + 1 < i → tx (vari cs sp (97 + i')) ∈ zs) ∧ (0 < i → cs' = vari cs sp (97 + (i - 1)))) ∧ H' = H8) ⟨cs, c11, rfl, rfl, low, fun _ => rfl, fun _ => ⟨fun i' h => absurd h (by omega), fun h => absurd h (by omega)⟩, rfl⟩ (fun _ _ _ _ _ => True.intro) ?_ ?_⟩
        · rintro i xv σ H9 H10 hi ⟨cs', c11', rfl, hl', low', hv', hin, rfl⟩ ⟨rfl, c, ec, rfl⟩
          have hi26 : i < 26 := by rw [← s26]; exact hi
          have ec' : c = 97 + i := by
            have := lets_at i hi26
            rw [Array.getElem?_toList, ec] at this
            exact Option.some.inj this
          subst ec'
          have sz8 : ∀ {c : List Nat}, c.length ≤ 8 → (tx c).length ≤ sizeLine := fun {c} h => by
            have := (smallL (n := 8) (by decide))
            rw [tx_len]; omega
          have one : ({ cps := #[97 + i] } : Str) = tx [97 + i] := rfl
          try simp (maxSteps := 1000000) only [tSeq, tIfS, tTest, tOp, tUn, tCB, tCons, tNil, tVar, tC, rI0, rI, rU, rEq, rNe, tRet, tRetN, tAsg, gName, gSub, tBM, tBM0, tNext, tB, tNot, tAnd, tOr, tIf, tCall, tDrop, tBreak, tCont, L2.start, tDGet, sDPut, tTup, tLst, tDNewK, tRevL, rCat, rAppend, rPop, rSetL, tAndV, tOrV, tNotV, tSl, tPart, tNoPart, tM1, gTup, gCons, gNil, cxK, cxnK, List.map_cons, List.map_nil, List.length_cons, List.length_nil, List.replicate, List.cons_append, List.nil_append, List.append_nil, List.set_cons_zero, List.set_cons_succ, List.getElem?_cons_zero, List.getElem?_cons_succ, Option.some.injEq, V.ref.injEq, V.int.injEq, V.str.injEq, V.bl.injEq, V.ty.injEq, exists_eq_left', exists_eq_left, exists_and_left, List.cons.injEq, and_true, true_and, sc_ii, sc_ss, sc_bb, sc_ni, sc_in, sc_is, sc_si, sc_nn, decide_true, decide_false, reduceCtorEq, Bool.false_eq_true, if_true, if_false, ite_true, ite_false, exists_const, eq_self, false_and, and_false, or_false, false_or, exists_false, Evl.rLenS, rSum, wipe, tYes, exists_eq, exists_eq', rIxL, rIxT, rIxS, exists_and_right, gt_iff_lt, not_true_eq_false, not_false_eq_true, Bool.not_true, Bool.not_false, decide_eq_true_eq, Nat.reduceSub, Nat.reduceAdd, List.append_assoc, tChain, tDIn, tDNotIn, sDDel, tAug, ipI]
          refine ⟨f, _, rfl, .inl (sq_l hf8), rfl, flat_strs, ?_⟩
          simp only [Bool.false_eq_true, if_false]
          rw [inV_str]
          by_cases hz : tx cs' ∈ zs
          · rw [decide_eq_true hz]
            refine ⟨true, rfl, ?_⟩
            rw [if_pos rfl]
            have lc : cs'.length ≤ 8 := by omega
            refine ⟨tx cs', rfl, sz8 lc, _, rfl, ?_, tx cs', rfl, sz8 lc, _, rfl, ?_, vari cs' sp (97 + i), ?_, by rw [vari_len (by omega)]; exact hl', vari_low low' (by omega), fun c => ?_, fun _ => ⟨fun i' hi' => ?_, fun _ => ?_⟩, rfl⟩
            · have := (smallL (n := 20) (by decide))
              rw [cutTo, one, tx_len, tx_len, List.length_take]
              show _ + 1 ≤ _
              omega
            · have := (smallL (n := 20) (by decide))
              rw [show (sp : Int) + 1 = ((sp + 1 : Nat) : Int) by omega, cutFrom, cutTo, one, tx_app, tx_len, tx_len, List.length_append, List.length_take, List.length_drop]
              show _ + 1 + _ ≤ _
              omega
            · rw [show (sp : Int) + 1 = ((sp + 1 : Nat) : Int) by omega, cutFrom, cutTo, one, tx_app, tx_app, List.append_assoc]; rfl
            · rw [vari_vari (by omega)]; exact hv' c
            · obtain ⟨h1, h2⟩ := hin hz
              by_cases z : i' + 1 < i
              · exact h1 i' z
              · have e : i' = i - 1 := by omega
                rw [e, ← h2 (by omega)]
                exact hz
            · rw [hv']; rfl
          · rw [decide_eq_false hz]
            refine ⟨false, rfl, ?_⟩
            rw [if_neg Bool.false_ne_true]
            exact ⟨cs', rfl, hl', low', hv', fun h => absurd h hz, by first | rfl | trivial⟩
        · rintro σ H9 ⟨cs', c11', rfl, hl', low', hv', hin, rfl⟩
          rw [s26] at hin
          have fresh : tx cs' ∉ zs := fun h => by
            obtain ⟨h1, h2⟩ := hin h
            have := many (zs := zs) (cs := cs) (s := sp) fun i hi => h1 i (by omega)
            omega
          try simp (maxSteps := 1000000) only [tSeq, tIfS, tTest, tOp, tUn, tCB, tCons, tNil, tVar, tC, rI0, rI, rU, rEq, rNe, tRet, tRetN, tAsg, gName, gSub, tBM, tBM0, tNext, tB, tNot, tAnd, tOr, tIf, tCall, tDrop, tBreak, tCont, L2.start, tDGet, sDPut, tTup, tLst, tDNewK, tRevL, rCat, rAppend, rPop, rSetL, tAndV, tOrV, tNotV, tSl, tPart, tNoPart, tM1, gTup, gCons, gNil, cxK, cxnK, List.map_cons, List.map_nil, List.length_cons, List.length_nil, List.replicate, List.cons_append, List.nil_append, List.append_nil, List.set_cons_zero, List.set_cons_succ, List.getElem?_cons_zero, List.getElem?_cons_succ, Option.some.injEq, V.ref.injEq, V.int.injEq, V.str.injEq, V.bl.injEq, V.ty.injEq, exists_eq_left', exists_eq_left, exists_and_left, List.cons.injEq, and_true, true_and, sc_ii, sc_ss, sc_bb, sc_ni, sc_in, sc_is, sc_si, sc_nn, decide_true, decide_false, reduceCtorEq, Bool.false_eq_true, if_true, if_false, ite_true, ite_false, exists_const, eq_self, false_and, and_false, or_false, false_or, exists_false, Evl.rLenS, rSum, wipe, tYes, exists_eq, exists_eq', rIxL, rIxT, rIxS, exists_and_right, gt_iff_lt, not_true_eq_false, not_false_eq_true, Bool.not_true, Bool.not_false, decide_eq_true_eq, Nat.reduceSub, Nat.reduceAdd, List.append_assoc, tChain, tDIn, tDNotIn, sDDel, tAug, ipI]
          have fn : H5 f = none := nf
          refine ⟨.inl ⟨rfl, _, sq_l hf8⟩, _, hf8, smallL (by rw [List.length_map]; omega), zs ++ [tx cs'], by rw [upd_same, List.map_append]; rfl, by rw [List.length_append, hl]; rfl, fun z hz => ?_, ?_, (k7.trans k68).wr fn, (k8.trans k68).wr nf0⟩
          · rcases List.mem_append.mp hz with h | h
            · exact hn z h
            · rw [List.mem_singleton.mp h]; exact tx_name low' (by omega) (by omega)
          · exact List.nodup_append.mpr ⟨nd, by simp, fun x hx y hy e => fresh (by rw [← List.mem_singleton.mp hy, ← e]; exact hx)⟩
    · intro σ H6 h6
      obtain ⟨c6, c7, c8, c9, c10, c11, zs, rfl, hf, hl, hn, nd, k7, k8⟩ := h6
      try simp (maxSteps := 1000000) only [tSeq, tIfS, tTest, tOp, tUn, tCB, tCons, tNil, tVar, tC, rI0, rI, rU, rEq, rNe, tRet, tRetN, tAsg, gName, gSub, tBM, tBM0, tNext, tB, tNot, tAnd, tOr, tIf, tCall, tDrop, tBreak, tCont, L2.start, tDGet, sDPut, tTup, tLst, tDNewK, tRevL, rCat, rAppend, rPop, rSetL, tAndV, tOrV, tNotV, tSl, tPart, tNoPart, tM1, gTup, gCons, gNil, cxK, cxnK, List.map_cons, List.map_nil, List.length_cons, List.length_nil, List.replicate, List.cons_append, List.nil_append, List.append_nil, List.set_cons_zero, List.set_cons_succ, List.getElem?_cons_zero, List.getElem?_cons_succ, Option.some.injEq, V.ref.injEq, V.int.injEq, V.str.injEq, V.bl.injEq, V.ty.injEq, exists_eq_left', exists_eq_left, exists_and_left, List.cons.injEq, and_true, true_and, sc_ii, sc_ss, sc_bb, sc_ni, sc_in, sc_is, sc_si, sc_nn, decide_true, decide_false, reduceCtorEq, Bool.false_eq_true, if_true, if_false, ite_true, ite_false, exists_const, eq_self, false_and, and_false, or_false, false_or, exists_false, Evl.rLenS, rSum, wipe, tYes, exists_eq, exists_eq', rIxL, rIxT, rIxS, exists_and_right, gt_iff_lt, not_true_eq_false, not_false_eq_true, Bool.not_true, Bool.not_false, decide_eq_true_eq, Nat.reduceSub, Nat.reduceAdd, List.append_assoc, tChain, tDIn, tDNotIn, sDDel, tAug, ipI]
      exact q f zs H6 nf0 hf (by omega) hn nd k8
end
end My

set_option Elab.async false
set_option linter.all false
set_option maxRecDepth 100000
set_option maxHeartbeats 4000000
namespace My
open PySem L2 NdefX
abbrev s_law_rows : Stmt := top 31
theorem sc_law_rows : FnScope ["_law_script", "_law_at", "_law_names_here", "_law_size", "_law_most", "_law_spots", "_law_rows_here", "_law_k", "_law_j"] ["_law_script", "_law_at", "_law_names_here", "_law_size", "_law_most"] (defScope s_law_rows) := ⟨rfl, rfl, rfl, by decide +kernel, rfl, by decide +kernel, by decide +kernel⟩
abbrev s_law_copy : Stmt := top 32
theorem sc_law_copy : FnScope ["_law_names_here", "_law_rows_here", "_law_found", "_law_name"] ["_law_names_here", "_law_rows_here"] (defScope s_law_copy) := ⟨rfl, rfl, rfl, by decide +kernel, rfl, by decide +kernel, by decide +kernel⟩
abbrev s_law_is_whole : Stmt := top 33
theorem sc_law_is_whole : FnScope ["_law_told", "_law_due"] ["_law_told", "_law_due"] (defScope s_law_is_whole) := ⟨rfl, rfl, rfl, by decide +kernel, rfl, by decide +kernel, by decide +kernel⟩
structure BtW (mg : Str → Option Value) : Prop where
  b_int : mg "int" = none
  b_isinstance : mg "isinstance" = none
  b_bool : mg "bool" = none
structure BtL (mg : Str → Option Value) : Prop where
  b_list : mg "list" = none
/-- the drawn cells -/
def drawnC (zs : List Str) (m : Nat) (ds : List Int) (z : Str) (s : Nat) : Int × Int := (ds.getD (2 * (zs.idxOf z * m + s)) 0, ds.getD (2 * (zs.idxOf z * m + s) + 1) 0)
theorem fl2 {n : Nat} {x y : Int} : ∀ {i j : Nat} {b : Int}, i < n → ([x, y] : List Int)[j]? = some b → (List.replicate n ([x, y] : List Int)).flatten[2 * i + j]? = some b := by
  induction n with
  | zero => intro i j b h; omega
  | succ n ih =>
    intro i j b hk hj
    have hj2 : j < 2 := (List.getElem?_eq_some_iff.mp hj).1
    rw [List.replicate_succ, List.flatten_cons]
    cases i with
    | zero => rw [Nat.mul_zero, Nat.zero_add, List.getElem?_append_left hj2]; exact hj
    | succ i =>
      rw [List.getElem?_append_right (by show 2 ≤ _; omega), show 2 * (i + 1) + j - ([x, y] : List Int).length = 2 * i + j by show 2 * (i + 1) + j - 2 = _; omega]
      exact ih (by omega) hj
theorem drawn2 {n : Nat} {x y : Int} {ds : List Int} (h : DrawOk (List.replicate n ([x, y] : List Int)).flatten ds) {i : Nat} (hi : i < n) : ∃ u v, ds[2 * i]? = some u ∧ ds[2 * i + 1]? = some v ∧ (0 ≤ u ∧ u < x) ∧ 0 ≤ v ∧ v < y := by
  have len : ds.length = 2 * n := by
    rw [h.1]
    simp
    omega
  have e0 : ds[2 * i]? = some (ds[2 * i]'(by omega)) := List.getElem?_eq_getElem _
  have e1 : ds[2 * i + 1]? = some (ds[2 * i + 1]'(by omega)) := List.getElem?_eq_getElem _
  exact ⟨_, _, e0, e1, h.2 _ _ x e0 (fl2 (j := 0) hi rfl), h.2 _ _ y e1 (fl2 (j := 1) hi rfl)⟩
theorem lcRg2N {ta : TA} {g : TG} {tt : TT} {te : TE} {vs : List Nat} {σ : L2.St} {H : Hp} {Q : VK} (lo m : Nat) (hm : lo + m ≤ 100000) (Pv : Addr → Nat → Hp → Prop) (ht : ∀ R : List V → Hp → Prop, R [.int (lo : Nat), .int ((lo : Int) + (m : Nat))] H → ta σ H R) (h0 : ∀ o, H o = none → Pv o 0 (upd H o (.lst [])))
    (step : ∀ o i H', H o = none → i < m → Pv o i H' → g (.int ((lo + i : Nat) : Int)) (wipe σ vs) H' fun σ2 H2 => wipe σ2 vs = wipe σ vs ∧ tt σ2 H2 fun b H3 => if b = true then te σ2 H3 fun y H4 => ∃ acc, H4 o = some (.lst acc) ∧ acc.length < sizeLine ∧ Pv o (i + 1) (upd H4 o (.lst (acc ++ [y]))) else Pv o (i + 1) H3)
    (fin : ∀ o H', H o = none → Pv o m H' → Q (.ref o) H') : tLc (iRng2 ta) g tt te vs σ H Q := by
  have en : ((lo : Int) + (m : Nat) - (lo : Nat)).toNat = m := by omega
  refine ht _ ⟨(lo : Nat), (lo : Int) + (m : Nat), rfl, ⟨by omega, by omega, by omega, by omega⟩, fun o no => ?_⟩
  rw [en]
  exact lc_range (Pv o) (h0 o no) (fun i H' hi p => by
    have := step o i H' no hi p
    rwa [show ((lo + i : Nat) : Int) = (lo : Int) + (i : Nat) by omega] at this) fun H' p => fin o H' no p
section
variable {P : Program} {w : World} {K : PySem.W.Frag} {mg : Str → Option Value} {base : Heap}
def spRows (K : PySem.W.Frag) : Sp := fun vs H Q _ => ∃ (a nl : Addr) (at_ m : Nat) (most : Int) (ns : List Int) (zs : List Str), vs = [.ref a, .int (at_ : Nat), .ref nl, .int (m : Nat), .int most] ∧ Scr K H a ns ∧ at_ ≤ 1000 ∧ H nl = some (.lst (zs.map V.str)) ∧ zs.Nodup ∧ zs.length ≤ 20 ∧ 1 ≤ m ∧ m ≤ 100 ∧ 1 ≤ most ∧ most ≤ 10 ∧
  ∀ (r : Addr) (c : Str → Nat → Int × Int) (H' : Hp), H r = none → RwAt H' r zs m c → CellB zs m most c → Kp [] H H' → Q (.ref r) H'
theorem ok_law_rows {f : Addr} {fd : FuncData} (D : Df K mg "_law_rows" s_law_rows ["_law_script", "_law_at", "_law_names_here", "_law_size", "_law_most"] f fd) (T : BtN mg) {fg : Addr} {fdg : FuncData} (D_law_draws : Df K mg "_law_draws" s_law_draws ["_law_script", "_law_at", "_law_bounds"] fg fdg) (G_law_draws : FnOk P w K mg base CX0 2 fg fdg ["_law_script", "_law_at", "_law_bounds"] (spDraws K)) : FnOk P w K mg base CX0 3 f fd ["_law_script", "_law_at", "_law_names_here", "_law_size", "_law_most"] (spRows K) := by
  refine D.F.ok sc_law_rows (fun vs H Q E h => ?_) (fun cdv A outer s H vs Q E hr h => ?_)
  · obtain ⟨a, nl, at_, m, most, ns, zs, rfl, _⟩ := h
    rfl
  · obtain ⟨a, nl, at_, m, most, ns, zs, rfl, hS, a1, hn, nd, z20, m1, m100, o1, o10, q⟩ := h
    have hu := hu_of hr
    refine ⟨_, (pss_cons (ps_set (i := 5) sc_law_rows.nd rfl (Or.inr rfl) (pe_call G_law_draws (hr.mono (by decide)) rfl D_law_draws.g D_law_draws.F.kp D_law_draws.b .nil pass0 (pa_cons (pv 0) (pa_cons (pv 1) (pa_cons (pe_op op_rep (pe_lst (pa_cons (pv 4) (pa_cons (pv 3) pa_nil))) (pe_op op_mul (pv 3) (pe_callB (id := "len") (r := Evl.rLenS K) call_len_seq (by rfl) T.b_len PySem.boot_len (pa_cons (pv 2) pa_nil)))) pa_nil)))))
      (pss_cons (ps_set (i := 6) sc_law_rows.nd rfl (Or.inl rfl) pe_dnewK)
      (pss_cons (ps_for PassesOwn.never rfl (pi_range1 rfl T.b_range (pa_cons (pe_callB (id := "len") (r := Evl.rLenS K) call_len_seq (by rfl) T.b_len PySem.boot_len (pa_cons (pv 2) pa_nil)) pa_nil)) (pg_name (i := 7) sc_law_rows.nd rfl (Or.inl rfl)) (pss_one (ps_dput hu (pv 6) (pe_ix (r := rIxL K) ix_list (pv 2) (pv 7) (fun _ _ => rfl)) (pe_lc (own := [("_law_j", 8)]) (g := (gName 8)) (tt := tYes) rfl sc_law_rows.nd (pi_range2 rfl T.b_range (pa_cons (pe_op op_mul (pv 7) (pv 3)) (pa_cons (pe_op op_add (pe_op op_mul (pv 7) (pv 3)) (pv 3)) pa_nil))) (blkOk_by (N := ["_law_script", "_law_at", "_law_names_here", "_law_size", "_law_most", "_law_spots", "_law_rows_here", "_law_k", "_law_j"]) (sc := defScope s_law_rows) (by decide +kernel)) (fun _ _ _ _ _ => (pg_name (i := 8) sc_law_rows.nd rfl (Or.inl rfl))) (fun _ _ _ _ _ => pts_nil) (fun _ _ _ _ _ => (pe_tup (pa_cons (pe_ix (r := rIxL K) ix_list (pv 5) (pe_op op_mul pe_int (pv 8)) (fun _ _ => rfl)) (pa_cons (pe_ix (r := rIxL K) ix_list (pv 5) (pe_op op_add (pe_op op_mul pe_int (pv 8)) pe_int) (fun _ _ => rfl)) pa_nil))))) rfl)))
      (pss_one (ps_ret (pv 6)))))), ?_⟩
    try simp (maxSteps := 1000000) only [tSeq, tIfS, tTest, tOp, tUn, tCB, tCons, tNil, tVar, tC, rI0, rI, rU, rEq, rNe, tRet, tRetN, tAsg, gName, gSub, tBM, tBM0, tNext, tB, tNot, tAnd, tOr, tIf, tCall, tDrop, tBreak, tCont, L2.start, tDGet, sDPut, tTup, tLst, tDNewK, tRevL, rCat, rAppend, rPop, rSetL, tAndV, tOrV, tNotV, tSl, tPart, tNoPart, tM1, gTup, gCons, gNil, cxK, cxnK, List.map_cons, List.map_nil, List.length_cons, List.length_nil, List.replicate, List.cons_append, List.nil_append, List.append_nil, List.set_cons_zero, List.set_cons_succ, List.getElem?_cons_zero, List.getElem?_cons_succ, Option.some.injEq, V.ref.injEq, V.int.injEq, V.str.injEq, V.bl.injEq, V.ty.injEq, exists_eq_left', exists_eq_left, exists_and_left, List.cons.injEq, and_true, true_and, sc_ii, sc_ss, sc_bb, sc_ni, sc_in, sc_is, sc_si, sc_nn, decide_true, decide_false, reduceCtorEq, Bool.false_eq_true, if_true, if_false, ite_true, ite_false, exists_const, eq_self, false_and, and_false, or_false, false_or, exists_false, Evl.rLenS, rSum, wipe, tYes, exists_eq, exists_eq', rIxL, rIxT, rIxS, exists_and_right, gt_iff_lt, not_true_eq_false, not_false_eq_true, Bool.not_true, Bool.not_false, decide_eq_true_eq, Nat.reduceSub, Nat.reduceAdd, List.append_assoc, tChain, tDIn, tDNotIn, sDDel, tAug, ipI, rRep]
    refine ⟨by decide, fun p np => ?_⟩
    have k1 : Kp [] H (upd H p (.lst [.int most, .int (m : Nat)])) := Kp.new np
    have hn1 := k1 _ _ not0 hn
    refine ⟨_, .inl (sq_l hn1), .inl ⟨by omega, by omega⟩, _, upd_same, ?_⟩
    rw [List.length_map, show ((m : Nat) : Int) * ((zs.length : Nat) : Int) = ((m * zs.length : Nat) : Int) by push_cast; rfl, Int.toNat_natCast]
    have mz : m * zs.length ≤ 2000 := by
      have := Nat.mul_le_mul m100 z20
      omega
    refine ⟨by omega, by omega, ?_, fun p1 np1 => ?_⟩
    · have := smallL (n := 5000) (by decide)
      show 2 * _ ≤ _
      omega
    have k2 := k1.trans (Kp.new np1 (o := .lst (List.replicate (m * zs.length) [V.int most, .int (m : Nat)]).flatten))
    have bsV : (List.replicate (m * zs.length) [V.int most, .int (m : Nat)]).flatten = (List.replicate (m * zs.length) ([most, (m : Int)] : List Int)).flatten.map V.int := by
      rw [List.map_flatten, List.map_replicate]; rfl
    rw [bsV] at k2 ⊢
    refine ⟨a, p1, at_, ns, _, rfl, ⟨k2.ls not0 hS.1, hS.2⟩, a1, upd_same, by simp; omega, fun b hb => ?_, fun s ds H5 ns5 hs hd k5 => ?_⟩
    · obtain ⟨l, hl, hb⟩ := List.mem_flatten.mp hb
      rw [(List.mem_replicate.mp hl).2] at hb
      simp at hb
      rcases hb with rfl | rfl <;> omega
    generalize (upd (upd H p (.lst [.int most, .int (m : Nat)])) p1 (.lst ((List.replicate (m * zs.length) ([most, (m : Int)] : List Int)).flatten.map V.int))) = H4 at k2 ns5 k5 ⊢
    have k25 := k2.trans k5
    have hn5 := k25 _ _ not0 hn
    intro r nr
    have nr0 : H r = none := k25.free0 nr
    have kr : Kp [] H5 (upd H5 r (.dK [])) := Kp.new nr
    have cell : ∀ {z : Str} {j : Nat}, zs[j]? = some z → zs.idxOf z = j := fun {z j} e => by
      obtain ⟨hj, ej⟩ := List.getElem?_eq_some_iff.mp e
      have hz : z ∈ zs := List.mem_of_getElem? e
      have h1 := List.idxOf_lt_length_iff.mpr hz
      have h2 : zs[zs.idxOf z] = z := List.getElem_idxOf h1
      exact (List.getElem_inj nd).mp (h2.trans ej.symm)
    refine forRg zs.length (fun j σ H' => ∃ c7, σ = [some (.ref a), some (.int (at_ : Nat)), some (.ref nl), some (.int (m : Nat)), some (.int most), some (.ref s), some (.ref r), c7, none] ∧ RwAt H' r (zs.take j) m (drawnC zs m ds) ∧ Kp [] H5 H') ?_ (by omega) (by omega) ⟨none, rfl, ⟨[], upd_same, rfl, fun i z e => by cases e⟩, kr⟩ ?_ ?_
    · intro R q
      have hn6 := kr _ _ not0 hn5
      try simp (maxSteps := 1000000) only [tSeq, tIfS, tTest, tOp, tUn, tCB, tCons, tNil, tVar, tC, rI0, rI, rU, rEq, rNe, tRet, tRetN, tAsg, gName, gSub, tBM, tBM0, tNext, tB, tNot, tAnd, tOr, tIf, tCall, tDrop, tBreak, tCont, L2.start, tDGet, sDPut, tTup, tLst, tDNewK, tRevL, rCat, rAppend, rPop, rSetL, tAndV, tOrV, tNotV, tSl, tPart, tNoPart, tM1, gTup, gCons, gNil, cxK, cxnK, List.map_cons, List.map_nil, List.length_cons, List.length_nil, List.replicate, List.cons_append, List.nil_append, List.append_nil, List.set_cons_zero, List.set_cons_succ, List.getElem?_cons_zero, List.getElem?_cons_succ, Option.some.injEq, V.ref.injEq, V.int.injEq, V.str.injEq, V.bl.injEq, V.ty.injEq, exists_eq_left', exists_eq_left, exists_and_left, List.cons.injEq, and_true, true_and, sc_ii, sc_ss, sc_bb, sc_ni, sc_in, sc_is, sc_si, sc_nn, decide_true, decide_false, reduceCtorEq, Bool.false_eq_true, if_true, if_false, ite_true, ite_false, exists_const, eq_self, false_and, and_false, or_false, false_or, exists_false, Evl.rLenS, rSum, wipe, tYes, exists_eq, exists_eq', rIxL, rIxT, rIxS, exists_and_right, gt_iff_lt, not_true_eq_false, not_false_eq_true, Bool.not_true, Bool.not_false, decide_eq_true_eq, Nat.reduceSub, Nat.reduceAdd, List.append_assoc, tChain, tDIn, tDNotIn, sDDel, tAug, ipI]
      refine ⟨_, .inl (sq_l hn6), ?_⟩
      rw [List.length_map]
      exact q
    · rintro j σ H6 hj ⟨c7, rfl, hrw, k6⟩
      have hs6 := k6 _ _ not0 hs
      have hn6 := k6 _ _ not0 hn5
      obtain ⟨z, ez⟩ : ∃ z, zs[j]? = some z := ⟨zs[j], List.getElem?_eq_getElem hj⟩
      have jm : j * m + m ≤ m * zs.length := by
        have := Nat.mul_le_mul_right m (show j + 1 ≤ zs.length from hj)
        rw [Nat.add_mul, Nat.one_mul, Nat.mul_comm zs.length] at this
        exact this
      try simp (maxSteps := 1000000) only [tSeq, tIfS, tTest, tOp, tUn, tCB, tCons, tNil, tVar, tC, rI0, rI, rU, rEq, rNe, tRet, tRetN, tAsg, gName, gSub, tBM, tBM0, tNext, tB, tNot, tAnd, tOr, tIf, tCall, tDrop, tBreak, tCont, L2.start, tDGet, sDPut, tTup, tLst, tDNewK, tRevL, rCat, rAppend, rPop, rSetL, tAndV, tOrV, tNotV, tSl, tPart, tNoPart, tM1, gTup, gCons, gNil, cxK, cxnK, List.map_cons, List.map_nil, List.length_cons, List.length_nil, List.replicate, List.cons_append, List.nil_append, List.append_nil, List.set_cons_zero, List.set_cons_succ, List.getElem?_cons_zero, List.getElem?_cons_succ, Option.some.injEq, V.ref.injEq, V.int.injEq, V.str.injEq, V.bl.injEq, V.ty.injEq, exists_eq_left', exists_eq_left, exists_and_left, List.cons.injEq, and_true, true_and, sc_ii, sc_ss, sc_bb, sc_ni, sc_in, sc_is, sc_si, sc_nn, decide_true, decide_false, reduceCtorEq, Bool.false_eq_true, if_true, if_false, ite_true, ite_false, exists_const, eq_self, false_and, and_false, or_false, false_or, exists_false, Evl.rLenS, rSum, wipe, tYes, exists_eq, exists_eq', rIxL, rIxT, rIxS, exists_and_right, gt_iff_lt, not_true_eq_false, not_false_eq_true, Bool.not_true, Bool.not_false, decide_eq_true_eq, Nat.reduceSub, Nat.reduceAdd, List.append_assoc, tChain, tDIn, tDNotIn, sDDel, tAug, ipI, sDPut]
      refine lcRg2N (j * m) m (by omega) (fun D i H' => ∃ xs, H' D = some (.lst xs) ∧ Cells (drawnC zs m ds z) xs i H' ∧ Kp [] H6 H') ?_ ?_ ?_ ?_
      · intro R' q'
        have cm : CMul (j : Int) (m : Int) := .inl ⟨by omega, by omega⟩
        have ejm : (j : Int) * (m : Int) = ((j * m : Nat) : Int) := by push_cast; rfl
        try simp (maxSteps := 1000000) only [tSeq, tIfS, tTest, tOp, tUn, tCB, tCons, tNil, tVar, tC, rI0, rI, rU, rEq, rNe, tRet, tRetN, tAsg, gName, gSub, tBM, tBM0, tNext, tB, tNot, tAnd, tOr, tIf, tCall, tDrop, tBreak, tCont, L2.start, tDGet, sDPut, tTup, tLst, tDNewK, tRevL, rCat, rAppend, rPop, rSetL, tAndV, tOrV, tNotV, tSl, tPart, tNoPart, tM1, gTup, gCons, gNil, cxK, cxnK, List.map_cons, List.map_nil, List.length_cons, List.length_nil, List.replicate, List.cons_append, List.nil_append, List.append_nil, List.set_cons_zero, List.set_cons_succ, List.getElem?_cons_zero, List.getElem?_cons_succ, Option.some.injEq, V.ref.injEq, V.int.injEq, V.str.injEq, V.bl.injEq, V.ty.injEq, exists_eq_left', exists_eq_left, exists_and_left, List.cons.injEq, and_true, true_and, sc_ii, sc_ss, sc_bb, sc_ni, sc_in, sc_is, sc_si, sc_nn, decide_true, decide_false, reduceCtorEq, Bool.false_eq_true, if_true, if_false, ite_true, ite_false, exists_const, eq_self, false_and, and_false, or_false, false_or, exists_false, Evl.rLenS, rSum, wipe, tYes, exists_eq, exists_eq', rIxL, rIxT, rIxS, exists_and_right, gt_iff_lt, not_true_eq_false, not_false_eq_true, Bool.not_true, Bool.not_false, decide_eq_true_eq, Nat.reduceSub, Nat.reduceAdd, List.append_assoc, tChain, tDIn, tDNotIn, sDDel, tAug, ipI]
        refine ⟨cm, cm, ?_⟩
        rw [ejm]
        exact q'
      · intro D nD
        exact ⟨[], upd_same, ⟨rfl, fun s hs => absurd hs (by omega)⟩, Kp.new nD⟩
      · intro D i H' nD hi hP
        obtain ⟨xs, hD, hc, k7⟩ := hP
        have hs7 := k7 _ _ not0 hs6
        obtain ⟨u, v, eu, ev, b1, b2⟩ := drawn2 hd (show j * m + i < m * zs.length by omega)
        have eu' : (ds.map V.int)[2 * (j * m + i)]? = some (.int u) := by rw [List.getElem?_map, eu]; rfl
        have ev' : (ds.map V.int)[2 * (j * m + i) + 1]? = some (.int v) := by rw [List.getElem?_map, ev]; rfl
        have ec : drawnC zs m ds z i = (u, v) := by
          unfold drawnC
          rw [cell ez, List.getD_eq_getElem?_getD, List.getD_eq_getElem?_getD, eu, ev]; rfl
        have a1' : atI (ds.map V.int) (2 * ((j * m + i : Nat) : Int)) = some (.int u) := by
          rw [show 2 * ((j * m + i : Nat) : Int) = ((2 * (j * m + i) : Nat) : Int) by omega]; exact atI_nat eu'
        have a2' : atI (ds.map V.int) (2 * ((j * m + i : Nat) : Int) + 1) = some (.int v) := by
          rw [show 2 * ((j * m + i : Nat) : Int) + 1 = ((2 * (j * m + i) + 1 : Nat) : Int) by omega]; exact atI_nat ev'
        try simp (maxSteps := 1000000) only [tSeq, tIfS, tTest, tOp, tUn, tCB, tCons, tNil, tVar, tC, rI0, rI, rU, rEq, rNe, tRet, tRetN, tAsg, gName, gSub, tBM, tBM0, tNext, tB, tNot, tAnd, tOr, tIf, tCall, tDrop, tBreak, tCont, L2.start, tDGet, sDPut, tTup, tLst, tDNewK, tRevL, rCat, rAppend, rPop, rSetL, tAndV, tOrV, tNotV, tSl, tPart, tNoPart, tM1, gTup, gCons, gNil, cxK, cxnK, List.map_cons, List.map_nil, List.length_cons, List.length_nil, List.replicate, List.cons_append, List.nil_append, List.append_nil, List.set_cons_zero, List.set_cons_succ, List.getElem?_cons_zero, List.getElem?_cons_succ, Option.some.injEq, V.ref.injEq, V.int.injEq, V.str.injEq, V.bl.injEq, V.ty.injEq, exists_eq_left', exists_eq_left, exists_and_left, List.cons.injEq, and_true, true_and, sc_ii, sc_ss, sc_bb, sc_ni, sc_in, sc_is, sc_si, sc_nn, decide_true, decide_false, reduceCtorEq, Bool.false_eq_true, if_true, if_false, ite_true, ite_false, exists_const, eq_self, false_and, and_false, or_false, false_or, exists_false, Evl.rLenS, rSum, wipe, tYes, exists_eq, exists_eq', rIxL, rIxT, rIxS, exists_and_right, gt_iff_lt, not_true_eq_false, not_false_eq_true, Bool.not_true, Bool.not_false, decide_eq_true_eq, Nat.reduceSub, Nat.reduceAdd, List.append_assoc, tChain, tDIn, tDNotIn, sDDel, tAug, ipI]
        refine ⟨.inl ⟨by decide, by decide⟩, _, sq_l hs7, .int u, a1', .inl ⟨by decide, by decide⟩, _, sq_l hs7, .int v, a2', by decide, fun p np => ?_⟩
        have kp : Kp [] H' (upd H' p (.tup [.int u, .int v])) := Kp.new np
        have hD2 := kp _ _ not0 hD
        refine ⟨xs, hD2, smallL (by rw [hc.1]; omega), xs ++ [.ref p], upd_same, Cells.putL (Cells.snoc (hc.kp kp) ?_) hD2, (k7.trans kp).wr nD⟩
        rw [upd_same, ec]
      · intro D H7 nD hP
        obtain ⟨xs, hD, hc, k7⟩ := hP
        have hn7 := k7 _ _ not0 hn6
        obtain ⟨kvs, hr7, hl7, hput, hrw7⟩ := hrw.put (z := z) (xs := xs) (c := drawnC zs m ds) k7 (nd_fresh nd ez) hD hc
        have ez' : (zs.map V.str)[j]? = some (.str z) := by rw [List.getElem?_map, ez]; rfl
        try simp (maxSteps := 1000000) only [tSeq, tIfS, tTest, tOp, tUn, tCB, tCons, tNil, tVar, tC, rI0, rI, rU, rEq, rNe, tRet, tRetN, tAsg, gName, gSub, tBM, tBM0, tNext, tB, tNot, tAnd, tOr, tIf, tCall, tDrop, tBreak, tCont, L2.start, tDGet, sDPut, tTup, tLst, tDNewK, tRevL, rCat, rAppend, rPop, rSetL, tAndV, tOrV, tNotV, tSl, tPart, tNoPart, tM1, gTup, gCons, gNil, cxK, cxnK, List.map_cons, List.map_nil, List.length_cons, List.length_nil, List.replicate, List.cons_append, List.nil_append, List.append_nil, List.set_cons_zero, List.set_cons_succ, List.getElem?_cons_zero, List.getElem?_cons_succ, Option.some.injEq, V.ref.injEq, V.int.injEq, V.str.injEq, V.bl.injEq, V.ty.injEq, exists_eq_left', exists_eq_left, exists_and_left, List.cons.injEq, and_true, true_and, sc_ii, sc_ss, sc_bb, sc_ni, sc_in, sc_is, sc_si, sc_nn, decide_true, decide_false, reduceCtorEq, Bool.false_eq_true, if_true, if_false, ite_true, ite_false, exists_const, eq_self, false_and, and_false, or_false, false_or, exists_false, Evl.rLenS, rSum, wipe, tYes, exists_eq, exists_eq', rIxL, rIxT, rIxS, exists_and_right, gt_iff_lt, not_true_eq_false, not_false_eq_true, Bool.not_true, Bool.not_false, decide_eq_true_eq, Nat.reduceSub, Nat.reduceAdd, List.append_assoc, tChain, tDIn, tDNotIn, sDDel, tAug, ipI]
        refine ⟨_, sq_l hn7, .str z, atI_nat ez', _, .inl ⟨kvs, Sum.inr z, hr7, rfl, smallL (by rw [hl7, List.length_take]; omega), rfl⟩, ?_, (k6.trans k7).wr nr⟩
        rw [hput, take_snoc ez]
        exact hrw7
    · rintro σ H6 ⟨c7, rfl, hrw, k6⟩
      rw [List.take_length] at hrw
      try simp (maxSteps := 1000000) only [tSeq, tIfS, tTest, tOp, tUn, tCB, tCons, tNil, tVar, tC, rI0, rI, rU, rEq, rNe, tRet, tRetN, tAsg, gName, gSub, tBM, tBM0, tNext, tB, tNot, tAnd, tOr, tIf, tCall, tDrop, tBreak, tCont, L2.start, tDGet, sDPut, tTup, tLst, tDNewK, tRevL, rCat, rAppend, rPop, rSetL, tAndV, tOrV, tNotV, tSl, tPart, tNoPart, tM1, gTup, gCons, gNil, cxK, cxnK, List.map_cons, List.map_nil, List.length_cons, List.length_nil, List.replicate, List.cons_append, List.nil_append, List.append_nil, List.set_cons_zero, List.set_cons_succ, List.getElem?_cons_zero, List.getElem?_cons_succ, Option.some.injEq, V.ref.injEq, V.int.injEq, V.str.injEq, V.bl.injEq, V.ty.injEq, exists_eq_left', exists_eq_left, exists_and_left, List.cons.injEq, and_true, true_and, sc_ii, sc_ss, sc_bb, sc_ni, sc_in, sc_is, sc_si, sc_nn, decide_true, decide_false, reduceCtorEq, Bool.false_eq_true, if_true, if_false, ite_true, ite_false, exists_const, eq_self, false_and, and_false, or_false, false_or, exists_false, Evl.rLenS, rSum, wipe, tYes, exists_eq, exists_eq', rIxL, rIxT, rIxS, exists_and_right, gt_iff_lt, not_true_eq_false, not_false_eq_true, Bool.not_true, Bool.not_false, decide_eq_true_eq, Nat.reduceSub, Nat.reduceAdd, List.append_assoc, tChain, tDIn, tDNotIn, sDDel, tAug, ipI]
      refine q r (drawnC zs m ds) H6 nr0 hrw (fun z hz s hs => ?_) (k25.trans k6)
      obtain ⟨j, ez⟩ := List.getElem?_of_mem hz
      have hj := (List.getElem?_eq_some_iff.mp ez).1
      have jm : j * m + m ≤ m * zs.length := by
        have := Nat.mul_le_mul_right m (show j + 1 ≤ zs.length from hj)
        rw [Nat.add_mul, Nat.one_mul, Nat.mul_comm zs.length] at this
        exact this
      obtain ⟨u, v, eu, ev, b1, b2⟩ := drawn2 hd (show j * m + s < m * zs.length by omega)
      have ec : drawnC zs m ds z s = (u, v) := by
        unfold drawnC
        rw [cell ez, List.getD_eq_getElem?_getD, List.getD_eq_getElem?_getD, eu, ev]; rfl
      rw [ec]
      exact ⟨b1, b2⟩
/-- a copy: new lists of the same tuples -/
def spCopy : Sp := fun vs H Q _ => ∃ (nl d : Addr) (m : Nat) (zs : List Str) (c : Str → Nat → Int × Int), vs = [.ref nl, .ref d] ∧ H nl = some (.lst (zs.map V.str)) ∧ zs.Nodup ∧ zs.length ≤ 20 ∧ RwAt H d zs m c ∧ ∀ (r : Addr) (H' : Hp), H r = none → RwAt H' r zs m c → Kp [] H H' → Q (.ref r) H'
theorem ok_law_copy {f : Addr} {fd : FuncData} (D : Df K mg "_law_copy" s_law_copy ["_law_names_here", "_law_rows_here"] f fd) (T : BtL mg) : FnOk P w K mg base CX0 1 f fd ["_law_names_here", "_law_rows_here"] spCopy := by
  refine D.F.ok sc_law_copy (fun vs H Q E h => ?_) (fun cdv A outer s H vs Q E hr h => ?_)
  · obtain ⟨nl, d, m, zs, c, rfl, _⟩ := h
    rfl
  · obtain ⟨nl, d, m, zs, c, rfl, hn, nd, z20, hd, q⟩ := h
    have hu := hu_of hr
    refine ⟨_, (pss_cons (ps_set (i := 2) sc_law_copy.nd rfl (Or.inl rfl) pe_dnewK)
      (pss_cons (ps_for PassesOwn.never rfl (pi_list (pv 0)) (pg_name (i := 3) sc_law_copy.nd rfl (Or.inl rfl)) (pss_one (ps_dput hu (pv 2) (pv 3) (pe_callTy call_list_of (by rfl) T.b_list (by decide +kernel) (pa_cons (pe_dget hu (pv 1) (pv 3) (fun _ _ => rfl)) pa_nil)) rfl)))
      (pss_one (ps_ret (pv 2))))), ?_⟩
    try simp (maxSteps := 1000000) only [tSeq, tIfS, tTest, tOp, tUn, tCB, tCons, tNil, tVar, tC, rI0, rI, rU, rEq, rNe, tRet, tRetN, tAsg, gName, gSub, tBM, tBM0, tNext, tB, tNot, tAnd, tOr, tIf, tCall, tDrop, tBreak, tCont, L2.start, tDGet, sDPut, tTup, tLst, tDNewK, tRevL, rCat, rAppend, rPop, rSetL, tAndV, tOrV, tNotV, tSl, tPart, tNoPart, tM1, gTup, gCons, gNil, cxK, cxnK, List.map_cons, List.map_nil, List.length_cons, List.length_nil, List.replicate, List.cons_append, List.nil_append, List.append_nil, List.set_cons_zero, List.set_cons_succ, List.getElem?_cons_zero, List.getElem?_cons_succ, Option.some.injEq, V.ref.injEq, V.int.injEq, V.str.injEq, V.bl.injEq, V.ty.injEq, exists_eq_left', exists_eq_left, exists_and_left, List.cons.injEq, and_true, true_and, sc_ii, sc_ss, sc_bb, sc_ni, sc_in, sc_is, sc_si, sc_nn, decide_true, decide_false, reduceCtorEq, Bool.false_eq_true, if_true, if_false, ite_true, ite_false, exists_const, eq_self, false_and, and_false, or_false, false_or, exists_false, Evl.rLenS, rSum, wipe, tYes, exists_eq, exists_eq', rIxL, rIxT, rIxS, exists_and_right, gt_iff_lt, not_true_eq_false, not_false_eq_true, Bool.not_true, Bool.not_false, decide_eq_true_eq, Nat.reduceSub, Nat.reduceAdd, List.append_assoc, tChain, tDIn, tDNotIn, sDDel, tAug, ipI]
    intro r nr
    have kr : Kp [] H (upd H r (.dK [])) := Kp.new nr
    refine ⟨.ref nl, rfl, nl, rfl, ⟨_, sq_l (kr _ _ not0 hn)⟩, for_list (K := K) (a := nl) (xs := zs.map V.str) (fun i σ H' => ∃ c3, σ = [some (.ref nl), some (.ref d), some (.ref r), c3] ∧ RwAt H' r (zs.take i) m c ∧ Kp [] H H') ⟨none, rfl, ⟨[], upd_same, rfl, fun i z e => by cases e⟩, kr⟩ (fun i σ H' _ h => by obtain ⟨_, _, _, k⟩ := h; exact k.ls not0 (sq_l hn)) ?_ ?_⟩
    · rintro i x σ H1 hx ⟨c3, rfl, hrw, k1⟩
      obtain ⟨z, ez, rfl⟩ : ∃ z, zs[i]? = some z ∧ V.str z = x := by
        rw [List.getElem?_map] at hx
        cases e : zs[i]? with
        | none => rw [e] at hx; cases hx
        | some z => rw [e] at hx; exact ⟨z, rfl, Option.some.inj hx⟩
      obtain ⟨kvs, l, xs, hd1, ev, hl, hc⟩ := (hd.kp k1).get nd (List.mem_of_getElem? ez)
      try simp (maxSteps := 1000000) only [tSeq, tIfS, tTest, tOp, tUn, tCB, tCons, tNil, tVar, tC, rI0, rI, rU, rEq, rNe, tRet, tRetN, tAsg, gName, gSub, tBM, tBM0, tNext, tB, tNot, tAnd, tOr, tIf, tCall, tDrop, tBreak, tCont, L2.start, tDGet, sDPut, tTup, tLst, tDNewK, tRevL, rCat, rAppend, rPop, rSetL, tAndV, tOrV, tNotV, tSl, tPart, tNoPart, tM1, gTup, gCons, gNil, cxK, cxnK, List.map_cons, List.map_nil, List.length_cons, List.length_nil, List.replicate, List.cons_append, List.nil_append, List.append_nil, List.set_cons_zero, List.set_cons_succ, List.getElem?_cons_zero, List.getElem?_cons_succ, Option.some.injEq, V.ref.injEq, V.int.injEq, V.str.injEq, V.bl.injEq, V.ty.injEq, exists_eq_left', exists_eq_left, exists_and_left, List.cons.injEq, and_true, true_and, sc_ii, sc_ss, sc_bb, sc_ni, sc_in, sc_is, sc_si, sc_nn, decide_true, decide_false, reduceCtorEq, Bool.false_eq_true, if_true, if_false, ite_true, ite_false, exists_const, eq_self, false_and, and_false, or_false, false_or, exists_false, Evl.rLenS, rSum, wipe, tYes, exists_eq, exists_eq', rIxL, rIxT, rIxS, exists_and_right, gt_iff_lt, not_true_eq_false, not_false_eq_true, Bool.not_true, Bool.not_false, decide_eq_true_eq, Nat.reduceSub, Nat.reduceAdd, List.append_assoc, tChain, tDIn, tDNotIn, sDDel, tAug, ipI, sDPut]
      refine ⟨.ref l, .inl ⟨kvs, Sum.inr z, .inl hd1, rfl, ev.symm⟩, l, rfl, xs, .inl (sq_l hl), fun p np => ?_⟩
      have kp : Kp [] H1 (upd H1 p (.lst xs)) := Kp.new np
      obtain ⟨kv2, hr7, hl7, hput, hrw7⟩ := hrw.put (z := z) (xs := xs) (c := c) kp (nd_fresh nd ez) upd_same (hc.kp kp)
      refine ⟨_, .inl ⟨kv2, Sum.inr z, hr7, rfl, smallL (by rw [hl7, List.length_take]; omega), rfl⟩, ?_, (k1.trans kp).wr nr⟩
      rw [hput, take_snoc ez]
      exact hrw7
    · rintro σ H1 ⟨c3, rfl, hrw, k1⟩
      rw [List.length_map, List.take_length] at hrw
      try simp (maxSteps := 1000000) only [tSeq, tIfS, tTest, tOp, tUn, tCB, tCons, tNil, tVar, tC, rI0, rI, rU, rEq, rNe, tRet, tRetN, tAsg, gName, gSub, tBM, tBM0, tNext, tB, tNot, tAnd, tOr, tIf, tCall, tDrop, tBreak, tCont, L2.start, tDGet, sDPut, tTup, tLst, tDNewK, tRevL, rCat, rAppend, rPop, rSetL, tAndV, tOrV, tNotV, tSl, tPart, tNoPart, tM1, gTup, gCons, gNil, cxK, cxnK, List.map_cons, List.map_nil, List.length_cons, List.length_nil, List.replicate, List.cons_append, List.nil_append, List.append_nil, List.set_cons_zero, List.set_cons_succ, List.getElem?_cons_zero, List.getElem?_cons_succ, Option.some.injEq, V.ref.injEq, V.int.injEq, V.str.injEq, V.bl.injEq, V.ty.injEq, exists_eq_left', exists_eq_left, exists_and_left, List.cons.injEq, and_true, true_and, sc_ii, sc_ss, sc_bb, sc_ni, sc_in, sc_is, sc_si, sc_nn, decide_true, decide_false, reduceCtorEq, Bool.false_eq_true, if_true, if_false, ite_true, ite_false, exists_const, eq_self, false_and, and_false, or_false, false_or, exists_false, Evl.rLenS, rSum, wipe, tYes, exists_eq, exists_eq', rIxL, rIxT, rIxS, exists_and_right, gt_iff_lt, not_true_eq_false, not_false_eq_true, Bool.not_true, Bool.not_false, decide_eq_true_eq, Nat.reduceSub, Nat.reduceAdd, List.append_assoc, tChain, tDIn, tDNotIn, sDDel, tAug, ipI]
      exact q r H1 nr hrw k1
def spWhole : Sp := fun vs H Q _ => ∃ i j : Int, vs = [.int i, .int j] ∧ Q (.bl (decide (i = j))) H
theorem ok_law_is_whole {f : Addr} {fd : FuncData} (D : Df K mg "_law_is_whole" s_law_is_whole ["_law_told", "_law_due"] f fd) (T : BtN mg) (b_isinstance : mg "isinstance" = none) (b_bool : mg "bool" = none) : FnOk P w K mg base CX0 1 f fd ["_law_told", "_law_due"] spWhole := by
  refine D.F.ok sc_law_is_whole (fun vs H Q E h => ?_) (fun cdv A outer s H vs Q E hr h => ?_)
  · obtain ⟨i, j, rfl, _⟩ := h
    rfl
  · obtain ⟨i, j, rfl, q⟩ := h
    have T : BtW mg := ⟨T.b_int, b_isinstance, b_bool⟩
    refine ⟨_, (pss_one (ps_ret (pe_and (pe_callB (id := "isinstance") (r := rIsi K) call_isi (by rfl) T.b_isinstance (by decide +kernel) (pa_cons (pv 0) (pa_cons (pe_bltn (v := .ty "int") (by rfl) T.b_int (by decide +kernel) rfl) pa_nil))) (pe_and (pe_not (pe_callB (id := "isinstance") (r := rIsi K) call_isi (by rfl) T.b_isinstance (by decide +kernel) (pa_cons (pv 0) (pa_cons (pe_bltn (v := .ty "bool") (by rfl) T.b_bool (by decide +kernel) rfl) pa_nil)))) (pe_one (pe_cmpR op_eq (pv 0) (pv 1) (nomark _))))))), ?_⟩
    try simp (maxSteps := 1000000) only [tSeq, tIfS, tTest, tOp, tUn, tCB, tCons, tNil, tVar, tC, rI0, rI, rU, rEq, rNe, tRet, tRetN, tAsg, gName, gSub, tBM, tBM0, tNext, tB, tNot, tAnd, tOr, tIf, tCall, tDrop, tBreak, tCont, L2.start, tDGet, sDPut, tTup, tLst, tDNewK, tRevL, rCat, rAppend, rPop, rSetL, tAndV, tOrV, tNotV, tSl, tPart, tNoPart, tM1, gTup, gCons, gNil, cxK, cxnK, List.map_cons, List.map_nil, List.length_cons, List.length_nil, List.replicate, List.cons_append, List.nil_append, List.append_nil, List.set_cons_zero, List.set_cons_succ, List.getElem?_cons_zero, List.getElem?_cons_succ, Option.some.injEq, V.ref.injEq, V.int.injEq, V.str.injEq, V.bl.injEq, V.ty.injEq, exists_eq_left', exists_eq_left, exists_and_left, List.cons.injEq, and_true, true_and, sc_ii, sc_ss, sc_bb, sc_ni, sc_in, sc_is, sc_si, sc_nn, decide_true, decide_false, reduceCtorEq, Bool.false_eq_true, if_true, if_false, ite_true, ite_false, exists_const, eq_self, false_and, and_false, or_false, false_or, exists_false, Evl.rLenS, rSum, wipe, tYes, exists_eq, exists_eq', rIxL, rIxT, rIxS, exists_and_right, gt_iff_lt, not_true_eq_false, not_false_eq_true, Bool.not_true, Bool.not_false, decide_eq_true_eq, Nat.reduceSub, Nat.reduceAdd, List.append_assoc, tChain, tDIn, tDNotIn, sDDel, tAug, ipI]
    refine isi_int_int ?_
    try simp (maxSteps := 1000000) only [tSeq, tIfS, tTest, tOp, tUn, tCB, tCons, tNil, tVar, tC, rI0, rI, rU, rEq, rNe, tRet, tRetN, tAsg, gName, gSub, tBM, tBM0, tNext, tB, tNot, tAnd, tOr, tIf, tCall, tDrop, tBreak, tCont, L2.start, tDGet, sDPut, tTup, tLst, tDNewK, tRevL, rCat, rAppend, rPop, rSetL, tAndV, tOrV, tNotV, tSl, tPart, tNoPart, tM1, gTup, gCons, gNil, cxK, cxnK, List.map_cons, List.map_nil, List.length_cons, List.length_nil, List.replicate, List.cons_append, List.nil_append, List.append_nil, List.set_cons_zero, List.set_cons_succ, List.getElem?_cons_zero, List.getElem?_cons_succ, Option.some.injEq, V.ref.injEq, V.int.injEq, V.str.injEq, V.bl.injEq, V.ty.injEq, exists_eq_left', exists_eq_left, exists_and_left, List.cons.injEq, and_true, true_and, sc_ii, sc_ss, sc_bb, sc_ni, sc_in, sc_is, sc_si, sc_nn, decide_true, decide_false, reduceCtorEq, Bool.false_eq_true, if_true, if_false, ite_true, ite_false, exists_const, eq_self, false_and, and_false, or_false, false_or, exists_false, Evl.rLenS, rSum, wipe, tYes, exists_eq, exists_eq', rIxL, rIxT, rIxS, exists_and_right, gt_iff_lt, not_true_eq_false, not_false_eq_true, Bool.not_true, Bool.not_false, decide_eq_true_eq, Nat.reduceSub, Nat.reduceAdd, List.append_assoc, tChain, tDIn, tDNotIn, sDDel, tAug, ipI]
    refine isi_int_bool ?_
    try simp (maxSteps := 1000000) only [tSeq, tIfS, tTest, tOp, tUn, tCB, tCons, tNil, tVar, tC, rI0, rI, rU, rEq, rNe, tRet, tRetN, tAsg, gName, gSub, tBM, tBM0, tNext, tB, tNot, tAnd, tOr, tIf, tCall, tDrop, tBreak, tCont, L2.start, tDGet, sDPut, tTup, tLst, tDNewK, tRevL, rCat, rAppend, rPop, rSetL, tAndV, tOrV, tNotV, tSl, tPart, tNoPart, tM1, gTup, gCons, gNil, cxK, cxnK, List.map_cons, List.map_nil, List.length_cons, List.length_nil, List.replicate, List.cons_append, List.nil_append, List.append_nil, List.set_cons_zero, List.set_cons_succ, List.getElem?_cons_zero, List.getElem?_cons_succ, Option.some.injEq, V.ref.injEq, V.int.injEq, V.str.injEq, V.bl.injEq, V.ty.injEq, exists_eq_left', exists_eq_left, exists_and_left, List.cons.injEq, and_true, true_and, sc_ii, sc_ss, sc_bb, sc_ni, sc_in, sc_is, sc_si, sc_nn, decide_true, decide_false, reduceCtorEq, Bool.false_eq_true, if_true, if_false, ite_true, ite_false, exists_const, eq_self, false_and, and_false, or_false, false_or, exists_false, Evl.rLenS, rSum, wipe, tYes, exists_eq, exists_eq', rIxL, rIxT, rIxS, exists_and_right, gt_iff_lt, not_true_eq_false, not_false_eq_true, Bool.not_true, Bool.not_false, decide_eq_true_eq, Nat.reduceSub, Nat.reduceAdd, List.append_assoc, tChain, tDIn, tDNotIn, sDDel, tAug, ipI]
    exact q
end
end My

set_option Elab.async false
set_option linter.all false
set_option maxRecDepth 100000
set_option maxHeartbeats 4000000
namespace My
open PySem L2 NdefX StX
structure BtD (mg : Str → Option Value) : Prop where
  b_len : mg "len" = none
  b_range : mg "range" = none
  b_isinstance : mg "isinstance" = none
  b_list : mg "list" = none
  b_tuple : mg "tuple" = none
  b_int : mg "int" = none
def Fit (d : PyData) : Prop := SeqAt.shaped d = true ∧ d.depth ≤ 60
theorem fit_str {z : Str} (h : PyData.canLay0 (.str z) = true) : Fit (.str z) := by
  refine ⟨?_, by show PyData.depth (.str z) ≤ 60; simp [PyData.depth]⟩
  unfold SeqAt.shaped
  rw [h]
  simp [PyData.depth]
theorem fitL {ds : List PyData} (h : ∀ d ∈ ds, Fit d) : SeqAt.shaped (.list ds) = true ∧ SeqAt.shaped (.tuple ds) = true := by
  have a1 : PyData.canLayAll0 ds = true := by
    induction ds with
    | nil => rfl
    | cons d r ih =>
      have h1 := h d List.mem_cons_self
      show (PyData.canLay0 d && PyData.canLayAll0 r) = true
      rw [SeqAt.canLay_of_shaped h1.1, ih fun x hx => h x (List.mem_cons_of_mem _ hx)]; rfl
  have a2 : PyData.depthAll ds ≤ 60 := by
    clear a1
    induction ds with
    | nil => exact Nat.zero_le _
    | cons d r ih =>
      have h1 := h d List.mem_cons_self
      have h2 := ih fun x hx => h x (List.mem_cons_of_mem _ hx)
      show max d.depth (PyData.depthAll r) ≤ 60
      have hd := h1.2
      omega
  have b1 : decide (PyData.depthAll ds + 1 ≤ 64) = true := decide_eq_true (by omega)
  constructor <;> (show (PyData.canLayAll0 ds && decide (PyData.depthAll ds + 1 ≤ 64)) = true; rw [a1, b1]; rfl)
theorem dpStrs {K : PySem.W.Frag} {H : Hp} : ∀ zs : List Str, DpAll K H (zs.map V.str) (zs.map PyData.str)
  | [] => .nil
  | z :: zs => .cons (.str z) (dpStrs zs)
theorem fit_name {z : Str} (h : nameS z = true) : Fit (.str z) := by
  unfold nameS at h
  rw [Bool.and_eq_true, Bool.and_eq_true, decide_eq_true_eq, decide_eq_true_eq, List.all_eq_true] at h
  refine fit_str ?_
  show PySem.PyData.canLay0 (.str z) = true
  unfold PySem.PyData.canLay0 PySem.PyData.strOk
  rw [← Array.all_toList, List.all_eq_true]
  intro c hc
  have := h.2.2 c hc
  unfold lowC at this
  rw [Bool.and_eq_true, decide_eq_true_eq, decide_eq_true_eq] at this
  exact decide_eq_true (by omega)
theorem shaped_names {zs : List Str} (h : ∀ z ∈ zs, nameS z = true) : SeqAt.shaped (.list (zs.map PyData.str)) = true := (fitL fun d hd => by
  obtain ⟨z, hz, rfl⟩ := List.mem_map.mp hd
  exact fit_name (h z hz)).1
theorem TabIs.kp {TC : Addr} {H H' : Hp} {t : Addr} {zs : List Str} {m : Nat} {start : Int} {c : Str → Nat → Int × Int} (h : TabIs TC H t zs m start c) (k : Kp [] H H') : TabIs TC H' t zs m start c := by
  obtain ⟨rs, a, b⟩ := h
  exact ⟨rs, a.kp k, b⟩
end My

set_option Elab.async false
set_option linter.all false
set_option maxRecDepth 100000
set_option maxHeartbeats 4000000
namespace My
open PySem L2 NdefX StX
abbrev s_law_pairs : Stmt := top 37
theorem sc_law_pairs : FnScope ["_law_rows_here", "_law_last", "_law_names_here", "_law_start", "_law_queue", "_law_seen", "_law_k", "_law_name", "_law_pair"] ["_law_rows_here", "_law_last", "_law_names_here", "_law_start"] (defScope s_law_pairs) := ⟨rfl, rfl, rfl, by decide +kernel, rfl, by decide +kernel, by decide +kernel⟩
structure BtH (mg : Str → Option Value) : Prop where
  b_len : mg "len" = none
def keyG (n x : Nat) : NestedKey := .tup [.num (x / n : Nat), .num (x % n : Nat)]
/-- the pairs of a list of codes -/
def PrsG (H : Hp) (n : Nat) (ps : List V) (f : List Nat) : Prop := ps.length = f.length ∧ ∀ (i x : Nat), f[i]? = some x → ∃ p : Addr, ps[i]? = some (V.ref p) ∧ H p = some (.tup [.int (x / n : Nat), .int (x % n : Nat)])
theorem PrsG.tp {H H' : Hp} {n : Nat} {ps : List V} {f : List Nat} (h : PrsG H n ps f) (k : ∀ b ys, H b = some (.tup ys) → H' b = some (.tup ys)) : PrsG H' n ps f := ⟨h.1, fun i s e => by
  obtain ⟨p, a, b⟩ := h.2 i s e
  exact ⟨p, a, k _ _ b⟩⟩
theorem PrsG.kp {H H' : Hp} {n : Nat} {ps : List V} {f : List Nat} (h : PrsG H n ps f) (k : Kp [] H H') : PrsG H' n ps f := h.tp fun b ys e => k _ _ not0 e
theorem PrsG.snoc {H : Hp} {n : Nat} {ps : List V} {f : List Nat} {p : Addr} {s : Nat} (h : PrsG H n ps f) (hp : H p = some (.tup [.int (s / n : Nat), .int (s % n : Nat)])) : PrsG H n (ps ++ [.ref p]) (f ++ [s]) := by
  refine ⟨by rw [List.length_append, List.length_append, h.1]; rfl, fun i t e => ?_⟩
  rcases Nat.lt_trichotomy i f.length with w | w | w
  · rw [List.getElem?_append_left w] at e
    obtain ⟨p', a, b⟩ := h.2 i t e
    exact ⟨p', by rw [List.getElem?_append_left (by rw [h.1]; exact w)]; exact a, b⟩
  · subst w
    rw [List.getElem?_append_right (Nat.le_refl _), Nat.sub_self] at e
    cases e
    exact ⟨p, by rw [← h.1, List.getElem?_append_right (Nat.le_refl _), Nat.sub_self]; rfl, hp⟩
  · rw [List.getElem?_append_right (by omega), List.getElem?_eq_none (by simp; omega)] at e
    cases e
theorem keyG_inj {n s t : Nat} (h : keyG n s = keyG n t) : s = t := by
  unfold keyG at h
  injection h with h
  injection h with h1 h2
  injection h1 with h1
  injection h2 with h2 _
  injection h2 with h2
  exact pair_eq (n := n) (by omega) (by omega)
theorem valN_not {kvs : List (NestedKey × V)} {k : NestedKey} (h : k ∉ kvs.map (·.1)) : valN kvs k = none := by
  unfold valN
  rw [Option.map_eq_none_iff, List.find?_eq_none]
  intro p hp
  simp
  intro z
  exact h (by rw [← z]; exact List.mem_map_of_mem hp)
theorem valN_in {kvs : List (NestedKey × V)} {k : NestedKey} (h : k ∈ kvs.map (·.1)) : (valN kvs k).isSome = true := by
  unfold valN
  obtain ⟨p, hp, e⟩ := List.mem_map.mp h
  rw [Option.isSome_map, List.find?_isSome]
  exact ⟨p, hp, by simpa using e⟩
/-- rows of a dict whose names stand in any order -/
def RwS (H : Hp) (d : Addr) (zs : List Str) (m : Nat) (c : Str → Nat → Int × Int) : Prop := ∃ zs0, RwAt H d zs0 m c ∧ zs0.Nodup ∧ ∀ z ∈ zs, z ∈ zs0
theorem RwS.kp {H H' : Hp} {d : Addr} {zs : List Str} {m : Nat} {c : Str → Nat → Int × Int} (h : RwS H d zs m c) (k : Kp [] H H') : RwS H' d zs m c := by
  obtain ⟨zs0, a, b⟩ := h
  exact ⟨zs0, a.kp k, b⟩
theorem RwS.get {H : Hp} {d : Addr} {zs : List Str} {m : Nat} {c : Str → Nat → Int × Int} (h : RwS H d zs m c) (_ : zs.Nodup) {z : Str} (hz : z ∈ zs) : ∃ kvs l xs, H d = some (.dK kvs) ∧ valV kvs (Sum.inr z) = some (.ref l) ∧ H l = some (.lst xs) ∧ Cells (c z) xs m H := by
  obtain ⟨zs0, a, b, s⟩ := h
  exact a.get b (s z hz)
section
variable {P : Program} {w : World} {K : PySem.W.Frag} {mg : Str → Option Value} {base : Heap} {tL t1 t2 : Tok}
def spPairs : Sp := fun vs H Q _ => ∃ (rd ld nl st : Addr) (m n s0 t0 : Nat) (zs : List Str) (c c' : Str → Nat → Int × Int), vs = [.ref rd, .ref ld, .ref nl, .ref st] ∧ RwS H rd zs m c ∧ RwS H ld zs n c' ∧ H nl = some (.lst (zs.map V.str)) ∧ zs.Nodup ∧ H st = some (.tup [.int (s0 : Nat), .int (t0 : Nat)]) ∧ Nx zs m c ∧ (∀ z ∈ zs, ∀ s, s < m → 0 ≤ (c z s).2) ∧ Nx zs n c' ∧ (∀ z ∈ zs, ∀ s, s < n → 0 ≤ (c' z s).2) ∧ s0 < m ∧ t0 < n ∧ m * n ≤ 10000 ∧
  ∀ l ps H', H l = none → H' l = some (.lst ps) → PrsG H' n ps (fndC zs (pairC c c' n) (s0 * n + t0) (m * n)) → Kp [] H H' → Q (.ref l) H'
/-- what stands while it goes on -/
def PwAt (P : Program) (w : World) (n : Nat) (H : Hp) (p sd : Addr) (f : List Nat) (H' : Hp) : Prop := (∃ ps, H' p = some (.lst ps) ∧ PrsG H' n ps f) ∧ (∃ kvs, DnAt P w H' sd kvs ∧ kvs.map (·.1) = f.map (keyG n)) ∧ Kp [] H H'
theorem PwAt.kp {n : Nat} {H H1 H2 : Hp} {p sd : Addr} {f : List Nat} (h : PwAt P w n H p sd f H1) (k : Kp [] H1 H2) : PwAt P w n H p sd f H2 := by
  obtain ⟨⟨ps, a, b⟩, ⟨kvs, c, e⟩, r⟩ := h
  exact ⟨⟨ps, k _ _ not0 a, b.tp fun b ys e => k _ _ not0 e⟩, ⟨kvs, dn_kp c k, e⟩, r.trans k⟩
def WPr (P : Program) (w : World) (zs : List Str) (c : Str → Nat → Int × Int) (n f0 m : Nat) (rd ld nl st p sd : Addr) (H : Hp) (k : Nat) (σ : L2.St) (H' : Hp) : Prop := ∃ (i : Nat) (c7 c8 : Option V), σ = [some (.ref rd), some (.ref ld), some (.ref nl), some (.ref st), some (.ref p), some (.ref sd), some (.int (i : Nat)), c7, c8] ∧ PwAt P w n H p sd (fndC zs c f0 i) H' ∧ i ≤ (fndC zs c f0 i).length ∧ k = m + 1 - i
theorem ok_law_pairs {f : Addr} {fd : FuncData} (D : Df K mg "_law_pairs" s_law_pairs ["_law_rows_here", "_law_last", "_law_names_here", "_law_start"] f fd) (T : BtH mg) : FnOk P w K mg base CX0 1 f fd ["_law_rows_here", "_law_last", "_law_names_here", "_law_start"] spPairs := by
  refine D.F.ok sc_law_pairs (fun vs H Q E h => ?_) (fun cdv A outer s H vs Q E hr h => ?_)
  · obtain ⟨rd, ld, nl, st, m, n, s0, t0, zs, c, c', rfl, _⟩ := h
    rfl
  · obtain ⟨rd, ld, nl, st, m1, n, s0, t0, zs, c1, c', rfl, hrw, hlw, hn, nd, hst, hN1, h01, hN', h0', s0m, t0n, mn, q⟩ := h
    have hu := hu_of hr
    refine ⟨_, (pss_cons (ps_set (i := 4) sc_law_pairs.nd rfl (Or.inl rfl) (pe_lst (pa_cons (pv 3) pa_nil)))
      (pss_cons (ps_set (i := 5) sc_law_pairs.nd rfl (Or.inl rfl) (pe_dispN hr.units (pv 3) pe_bl))
      (pss_cons (ps_set (i := 6) sc_law_pairs.nd rfl (Or.inl rfl) pe_int)
      (pss_cons (ps_while PassesOwn.never (pt_cmpR op_lt (pv 6) (pe_callB (id := "len") (r := Evl.rLenS K) call_len_seq (by rfl) T.b_len PySem.boot_len (pa_cons (pv 4) pa_nil)) (nomark _)) (pss_cons (ps_for PassesOwn.never rfl (pi_list (pv 2)) (pg_name (i := 7) sc_law_pairs.nd rfl (Or.inl rfl)) (pss_cons (ps_set (i := 8) sc_law_pairs.nd rfl (Or.inl rfl) (pe_tup (pa_cons (pe_ix (r := rIxT K) ix_tup (pe_ix (r := rIxL K) ix_list (pe_dget hu (pv 0) (pv 7) (fun _ _ => rfl)) (pe_ix (r := rIxT K) ix_tup (pe_ix (r := rIxL K) ix_list (pv 4) (pv 6) (fun _ _ => rfl)) pe_int (fun _ _ => rfl)) (fun _ _ => rfl)) pe_int (fun _ _ => rfl)) (pa_cons (pe_ix (r := rIxT K) ix_tup (pe_ix (r := rIxL K) ix_list (pe_dget hu (pv 1) (pv 7) (fun _ _ => rfl)) (pe_ix (r := rIxT K) ix_tup (pe_ix (r := rIxL K) ix_list (pv 4) (pv 6) (fun _ _ => rfl)) pe_int (fun _ _ => rfl)) (fun _ _ => rfl)) pe_int (fun _ _ => rfl)) pa_nil))))
      (pss_one (ps_if (pt_cmp (pc_nnotin hr.units (pv 8) (pv 5))) (pss_cons (ps_nput hr.units (pv 5) (pv 8) pe_bl rfl)
      (pss_one (ps_expr (pe_bm PySem.F.plainAttrs_list PySem.F.slot_list_append PySem.F.type_list_append mt_append (pv 4) (pa_cons (pv 8) pa_nil))))) pss_nil))))
      (pss_one (ps_aug (i := 6) sc_law_pairs.nd rfl (Or.inl rfl) pe_int ip_add))))
      (pss_one (ps_ret (pv 4))))))), ?_⟩
    try simp (maxSteps := 1000000) only [tSeq, tIfS, tTest, tOp, tUn, tCB, tCons, tNil, tVar, tC, rI0, rI, rU, rEq, rNe, tRet, tRetN, tAsg, gName, gSub, tBM, tBM0, tNext, tB, tNot, tAnd, tOr, tIf, tCall, tDrop, tBreak, tCont, L2.start, tDGet, sDPut, tTup, tLst, tDNewK, tRevL, rCat, rAppend, rPop, rSetL, tAndV, tOrV, tNotV, tSl, tPart, tNoPart, tM1, gTup, gCons, gNil, cxK, cxnK, List.map_cons, List.map_nil, List.length_cons, List.length_nil, List.replicate, List.cons_append, List.nil_append, List.append_nil, List.set_cons_zero, List.set_cons_succ, List.getElem?_cons_zero, List.getElem?_cons_succ, Option.some.injEq, V.ref.injEq, V.int.injEq, V.str.injEq, V.bl.injEq, V.ty.injEq, exists_eq_left', exists_eq_left, exists_and_left, List.cons.injEq, and_true, true_and, sc_ii, sc_ss, sc_bb, sc_ni, sc_in, sc_is, sc_si, sc_nn, decide_true, decide_false, reduceCtorEq, Bool.false_eq_true, if_true, if_false, ite_true, ite_false, exists_const, eq_self, false_and, and_false, or_false, false_or, exists_false, Evl.rLenS, rSum, wipe, tYes, exists_eq, exists_eq', rIxL, rIxT, rIxS, exists_and_right, gt_iff_lt, not_true_eq_false, not_false_eq_true, Bool.not_true, Bool.not_false, decide_eq_true_eq, Nat.reduceSub, Nat.reduceAdd, List.append_assoc, tChain, tDIn, tDNotIn, sDDel, tAug, ipI, tDispN]
    have hN := pair_Nx hN1 hN'
    have fm := pair_lt (n := n) s0m t0n
    have hst : H st = some (.tup [.int ((s0 * n + t0) / n : Nat), .int ((s0 * n + t0) % n : Nat)]) := by rw [pair_div t0n, pair_mod t0n]; exact hst
    generalize hf0 : s0 * n + t0 = f0 at *
    generalize hm : m1 * n = m at *
    generalize hc : pairC c1 c' n = c at *
    refine ⟨by decide, fun p np => ?_⟩
    have k1 : Kp [] H (upd H p (.lst [.ref st])) := Kp.new np
    intro sd nsd
    have k2 : Kp [] (upd H p (.lst [.ref st])) (upd (upd H p (.lst [.ref st])) sd (.dK [])) := Kp.new nsd
    have psd : p ≠ sd := fun z => by rw [z, upd_same] at nsd; cases nsd
    have nsd0 : H sd = none := noneB k1 nsd
    have hst2 := (k1.trans k2) _ _ not0 hst
    refine ⟨upd_same, keyG n f0, ⟨st, rfl, .tup hst2 (.cons (.int _) (.cons (.int _) .nil)), by unfold keyG; simp only [NestedKey.depthAll, NestedKey.depth]; omega⟩, fun ob hob => ?_⟩
    have k3 : Kp [] H (upd (upd (upd H p (.lst [.ref st])) sd (.dK [])) sd ob) := (k1.trans k2).wr nsd0
    have hb0 : PwAt P w n H p sd (fndC zs c f0 0) (upd (upd (upd H p (.lst [.ref st])) sd (.dK [])) sd ob) := by
      refine ⟨⟨[.ref st], by rw [upd_ne psd, upd_ne psd, upd_same], rfl, fun i s e => ?_⟩, ⟨_, hob, rfl⟩, k3⟩
      cases i with
      | zero => cases e; exact ⟨st, rfl, k3 _ _ not0 hst⟩
      | succ i => cases e
    generalize upd (upd (upd H p (.lst [.ref st])) sd (.dK [])) sd ob = H1 at hb0
    refine ⟨WPr P w zs c n f0 m rd ld nl st p sd H, ⟨_, 0, none, none, rfl, hb0, Nat.zero_le _, rfl⟩, ?_⟩
    rintro n' σ H2 ⟨i, c7, c8, rfl, hB, il, rfl⟩
    obtain ⟨⟨ps, hp, hps⟩, _, k2⟩ := id hB
    have fo := fndC_ok hN fm i
    have flen := fo.len
    try simp (maxSteps := 1000000) only [tSeq, tIfS, tTest, tOp, tUn, tCB, tCons, tNil, tVar, tC, rI0, rI, rU, rEq, rNe, tRet, tRetN, tAsg, gName, gSub, tBM, tBM0, tNext, tB, tNot, tAnd, tOr, tIf, tCall, tDrop, tBreak, tCont, L2.start, tDGet, sDPut, tTup, tLst, tDNewK, tRevL, rCat, rAppend, rPop, rSetL, tAndV, tOrV, tNotV, tSl, tPart, tNoPart, tM1, gTup, gCons, gNil, cxK, cxnK, List.map_cons, List.map_nil, List.length_cons, List.length_nil, List.replicate, List.cons_append, List.nil_append, List.append_nil, List.set_cons_zero, List.set_cons_succ, List.getElem?_cons_zero, List.getElem?_cons_succ, Option.some.injEq, V.ref.injEq, V.int.injEq, V.str.injEq, V.bl.injEq, V.ty.injEq, exists_eq_left', exists_eq_left, exists_and_left, List.cons.injEq, and_true, true_and, sc_ii, sc_ss, sc_bb, sc_ni, sc_in, sc_is, sc_si, sc_nn, decide_true, decide_false, reduceCtorEq, Bool.false_eq_true, if_true, if_false, ite_true, ite_false, exists_const, eq_self, false_and, and_false, or_false, false_or, exists_false, Evl.rLenS, rSum, wipe, tYes, exists_eq, exists_eq', rIxL, rIxT, rIxS, exists_and_right, gt_iff_lt, not_true_eq_false, not_false_eq_true, Bool.not_true, Bool.not_false, decide_eq_true_eq, Nat.reduceSub, Nat.reduceAdd, List.append_assoc, tChain, tDIn, tDNotIn, sDDel, tAug, ipI]
    refine ⟨_, .inl (sq_l hp), ?_⟩
    rw [hps.1]
    by_cases e : i < (fndC zs c f0 i).length
    · rw [if_pos (show (i : Int) < ((fndC zs c f0 i).length : Nat) by omega)]
      refine ⟨fun σ' H' => ∃ m', m' < m + 1 - i ∧ WPr P w zs c n f0 m rd ld nl st p sd H m' σ' H', fun _ _ h => h, ?_⟩
      have es : (fndC zs c f0 i)[i]? = some (fndC zs c f0 i)[i] := List.getElem?_eq_getElem e
      generalize (fndC zs c f0 i)[i] = s' at es
      have sin := List.mem_of_getElem? es
      have sm : s' < m := fo.2 s' sin
      have sm2 : s' / n < m1 ∧ s' % n < n := pair_in (by rw [hm]; exact sm)
      have hn2 := k2 _ _ not0 hn
      refine ⟨.ref nl, rfl, nl, rfl, ⟨_, sq_l hn2⟩, for_list (K := K) (a := nl) (xs := zs.map V.str) (fun j σ H' => (∃ c7 c8 : Option V, σ = [some (.ref rd), some (.ref ld), some (.ref nl), some (.ref st), some (.ref p), some (.ref sd), some (.int (i : Nat)), c7, c8]) ∧ PwAt P w n H p sd (visitC c s' (zs.take j) (fndC zs c f0 i)) H') ⟨⟨_, _, rfl⟩, hB⟩ (fun j σ H' _ h => sq_l (h.2.2.2 _ _ not0 hn)) ?_ ?_⟩
      · rintro j x σ H4 hx ⟨⟨c7, c8, rfl⟩, hB4⟩
        obtain ⟨z, ez, rfl⟩ : ∃ z, zs[j]? = some z ∧ V.str z = x := by
          rw [List.getElem?_map] at hx
          cases e : zs[j]? with
          | none => rw [e] at hx; cases hx
          | some z => rw [e] at hx; exact ⟨z, rfl, Option.some.inj hx⟩
        have hz : z ∈ zs := List.mem_of_getElem? ez
        obtain ⟨⟨ps4, hp4, hps4⟩, ⟨kv4, hd4, hk4⟩, k4⟩ := id hB4
        have fv : FOk m (visitC c s' (zs.take j) (fndC zs c f0 i)) := visitC_ok (fun y hy => hN y (List.mem_of_mem_take hy) s' sm) fo
        obtain ⟨kv, l, xs, hd, ev, hl, hcc⟩ := (hrw.kp k4).get nd hz
        obtain ⟨pr, epr, hpr⟩ := hcc.2 (s' / n) sm2.1
        obtain ⟨kv', l', xs', hd', ev', hl', hcc'⟩ := (hlw.kp k4).get nd hz
        obtain ⟨pr', epr', hpr'⟩ := hcc'.2 (s' % n) sm2.2
        obtain ⟨qs, eqs, hqs⟩ := hps4.2 i s' (visitC_get es)
        try simp (maxSteps := 1000000) only [tSeq, tIfS, tTest, tOp, tUn, tCB, tCons, tNil, tVar, tC, rI0, rI, rU, rEq, rNe, tRet, tRetN, tAsg, gName, gSub, tBM, tBM0, tNext, tB, tNot, tAnd, tOr, tIf, tCall, tDrop, tBreak, tCont, L2.start, tDGet, sDPut, tTup, tLst, tDNewK, tRevL, rCat, rAppend, rPop, rSetL, tAndV, tOrV, tNotV, tSl, tPart, tNoPart, tM1, gTup, gCons, gNil, cxK, cxnK, List.map_cons, List.map_nil, List.length_cons, List.length_nil, List.replicate, List.cons_append, List.nil_append, List.append_nil, List.set_cons_zero, List.set_cons_succ, List.getElem?_cons_zero, List.getElem?_cons_succ, Option.some.injEq, V.ref.injEq, V.int.injEq, V.str.injEq, V.bl.injEq, V.ty.injEq, exists_eq_left', exists_eq_left, exists_and_left, List.cons.injEq, and_true, true_and, sc_ii, sc_ss, sc_bb, sc_ni, sc_in, sc_is, sc_si, sc_nn, decide_true, decide_false, reduceCtorEq, Bool.false_eq_true, if_true, if_false, ite_true, ite_false, exists_const, eq_self, false_and, and_false, or_false, false_or, exists_false, Evl.rLenS, rSum, wipe, tYes, exists_eq, exists_eq', rIxL, rIxT, rIxS, exists_and_right, gt_iff_lt, not_true_eq_false, not_false_eq_true, Bool.not_true, Bool.not_false, decide_eq_true_eq, Nat.reduceSub, Nat.reduceAdd, List.append_assoc, tChain, tDIn, tDNotIn, sDDel, tAug, ipI, tNNotIn, sNPut]
        have hg1 := h01 z hz _ sm2.1
        have hg2 := h0' z hz _ sm2.2
        have nx2 := hN' z hz _ sm2.2
        have enx : nx c z s' = nx c1 z (s' / n) * n + nx c' z (s' % n) := by rw [← hc]; exact pair_nx
        have y1 : nx c z s' / n = nx c1 z (s' / n) := by rw [enx]; exact pair_div nx2
        have y2 : nx c z s' % n = nx c' z (s' % n) := by rw [enx]; exact pair_mod nx2
        have evs := visitC_snoc (c := c) (s := s') (f := fndC zs c f0 i) ez
        have eg1 : (c1 z (s' / n)).2 = ((nx c z s' / n : Nat) : Int) := by rw [y1]; unfold nx; omega
        have eg2 : (c' z (s' % n)).2 = ((nx c z s' % n : Nat) : Int) := by rw [y2]; unfold nx; omega
        have two : (2 : Nat) ≤ sizeLine := by rw [sizeLine_eq]; decide
        refine ⟨.ref l, ev ▸ DGet.k (k := Sum.inr z) hd, _, sq_l hp4, .ref qs, atI_nat eqs, qs, rfl, _, sq_t hqs, .int (s' / n : Nat), rfl, l, rfl, xs, _, rfl, sq_l hl, .ref pr, atI_nat epr, pr, rfl, _, sq_t hpr, .int (c1 z (s' / n)).2, rfl,
          .ref l', ev' ▸ DGet.k (k := Sum.inr z) hd', _, sq_l hp4, .ref qs, atI_nat eqs, qs, rfl, _, sq_t hqs, .int (s' % n : Nat), rfl, l', rfl, xs', _, rfl, sq_l hl', .ref pr', atI_nat epr', pr', rfl, _, sq_t hpr', .int (c' z (s' % n)).2, rfl, two, fun tp ntp => ?_⟩
        rw [eg1, eg2]
        generalize hy : nx c z s' = y at *
        have kt : Kp [] H4 (upd H4 tp (.tup [.int (y / n : Nat), .int (y % n : Nat)])) := Kp.new ntp
        have htp : (upd H4 tp (.tup [.int (y / n : Nat), .int (y % n : Nat)])) tp = some (.tup [.int (y / n : Nat), .int (y % n : Nat)]) := upd_same
        generalize upd H4 tp (.tup [.int (y / n : Nat), .int (y % n : Nat)]) = H5 at kt htp
        have hB5 := hB4.kp kt
        have nk : NKey H5 (.ref tp) (keyG n y) := ⟨tp, rfl, .tup htp (.cons (.int _) (.cons (.int _) .nil)), by unfold keyG; simp only [NestedKey.depthAll, NestedKey.depth]; omega⟩
        have hd5 := dn_kp hd4 kt
        have hp5 := kt _ _ not0 hp4
        refine ⟨kv4, hd5, keyG n y, nk, ?_⟩
        rw [evs]
        unfold noteC
        rw [hy]
        by_cases hm' : y ∈ visitC c s' (zs.take j) (fndC zs c f0 i)
        · rw [valN_in (by rw [hk4]; exact List.mem_map_of_mem hm'), if_neg (by decide), if_pos hm']
          exact hB5
        · have vn : valN kv4 (keyG n y) = none := valN_not (by
            rw [hk4]
            intro zz
            obtain ⟨y', hy', e⟩ := List.mem_map.mp zz
            exact hm' (by rw [← keyG_inj e]; exact hy'))
          rw [vn, if_pos (by decide), if_neg hm']
          have kl : kv4.length ≤ m := by
            have := congrArg List.length hk4
            rw [List.length_map, List.length_map] at this
            have := fv.len
            omega
          refine ⟨kv4, hd5, keyG n y, nk, smallL (by omega), fun ob hob => ?_⟩
          have hp6 : (upd H5 sd ob) p = some (.lst ps4) := by rw [upd_ne psd]; exact hp5
          have tsd : ∀ b us, H5 b = some (.tup us) → (upd H5 sd ob) b = some (.tup us) := fun b us e => by
            rw [upd_ne (fun zz => by
              subst zz
              rcases hd5 with ⟨a, _⟩ | ⟨_, a, _⟩ <;> (rw [e] at a; cases a))]
            exact e
          refine ⟨.inl ⟨rfl, _, sq_l hp6⟩, ps4, hp6, smallL (by rw [hps4.1]; have := fv.len; omega), ⟨_, upd_same, ?_⟩, ⟨_, dn_wr hob hp6 (Ne.symm psd), ?_⟩, ((k4.trans kt).wr nsd0).wr np⟩
          · exact (((hps4.kp kt).tp tsd).snoc (tsd _ _ htp)).tp fun b ys e => by
              rw [upd_ne (fun zz => by rw [zz, hp6] at e; cases e)]
              exact e
          · unfold putN
            rw [vn, if_neg (by decide), List.map_append, List.map_append, hk4]
            rfl
      · rintro σ H4 ⟨⟨c7, c8, rfl⟩, hB4⟩
        rw [List.length_map, List.take_length, ← fndC_succ es] at hB4
        try simp (maxSteps := 1000000) only [tSeq, tIfS, tTest, tOp, tUn, tCB, tCons, tNil, tVar, tC, rI0, rI, rU, rEq, rNe, tRet, tRetN, tAsg, gName, gSub, tBM, tBM0, tNext, tB, tNot, tAnd, tOr, tIf, tCall, tDrop, tBreak, tCont, L2.start, tDGet, sDPut, tTup, tLst, tDNewK, tRevL, rCat, rAppend, rPop, rSetL, tAndV, tOrV, tNotV, tSl, tPart, tNoPart, tM1, gTup, gCons, gNil, cxK, cxnK, List.map_cons, List.map_nil, List.length_cons, List.length_nil, List.replicate, List.cons_append, List.nil_append, List.append_nil, List.set_cons_zero, List.set_cons_succ, List.getElem?_cons_zero, List.getElem?_cons_succ, Option.some.injEq, V.ref.injEq, V.int.injEq, V.str.injEq, V.bl.injEq, V.ty.injEq, exists_eq_left', exists_eq_left, exists_and_left, List.cons.injEq, and_true, true_and, sc_ii, sc_ss, sc_bb, sc_ni, sc_in, sc_is, sc_si, sc_nn, decide_true, decide_false, reduceCtorEq, Bool.false_eq_true, if_true, if_false, ite_true, ite_false, exists_const, eq_self, false_and, and_false, or_false, false_or, exists_false, Evl.rLenS, rSum, wipe, tYes, exists_eq, exists_eq', rIxL, rIxT, rIxS, exists_and_right, gt_iff_lt, not_true_eq_false, not_false_eq_true, Bool.not_true, Bool.not_false, decide_eq_true_eq, Nat.reduceSub, Nat.reduceAdd, List.append_assoc, tChain, tDIn, tDNotIn, sDDel, tAug, ipI]
        refine ⟨m + 1 - (i + 1), by omega, i + 1, c7, c8, rfl, hB4, ?_, rfl⟩
        rw [fndC_succ es]
        exact Nat.le_trans e visitC_pre.length_le
    · rw [if_neg (show ¬ (i : Int) < ((fndC zs c f0 i).length : Nat) by omega)]
      refine q p ps H2 np hp ?_ k2
      rw [← fndC_all hN fm (show i = (fndC zs c f0 i).length by omega)]
      exact hps
end
end My

set_option Elab.async false
set_option linter.all false
set_option maxRecDepth 100000
set_option maxHeartbeats 4000000
/-! ### a search by breadth finds its rows in their order: shorter ones first, then by the names' order -/
namespace My
open PySem L2
section
variable {ι : Str → Nat}
def lx (ι : Str → Nat) : List Str → List Str → Prop
  | a :: u, b :: v => ι a < ι b ∨ (a = b ∧ lx ι u v)
  | _, _ => False
def sl (ι : Str → Nat) (u v : List Str) : Prop := u.length < v.length ∨ (u.length = v.length ∧ lx ι u v)
theorem lx_irr : ∀ u : List Str, ¬ lx ι u u
  | [], h => h
  | a :: u, h => by
    rcases h with h | ⟨_, h⟩
    · exact Nat.lt_irrefl _ h
    · exact lx_irr u h
theorem lx_trans : ∀ {u v w : List Str}, lx ι u v → lx ι v w → lx ι u w
  | a :: u, b :: v, c :: w, h, g => by
    rcases h with h | ⟨rfl, h⟩
    · rcases g with g | ⟨rfl, g⟩
      · exact .inl (Nat.lt_trans h g)
      · exact .inl h
    · rcases g with g | ⟨rfl, g⟩
      · exact .inl g
      · exact .inr ⟨rfl, lx_trans h g⟩
  | [], _, _, h, _ => h.elim
  | _ :: _, [], _, h, _ => h.elim
  | _ :: _, _ :: _, [], _, g => g.elim
theorem lx_app : ∀ {u v : List Str} (s t : List Str), lx ι u v → lx ι (u ++ s) (v ++ t)
  | a :: u, b :: v, s, t, h => by
    rcases h with h | ⟨rfl, h⟩
    · exact .inl h
    · exact .inr ⟨rfl, lx_app s t h⟩
  | [], _, _, _, h => h.elim
  | _ :: _, [], _, _, h => h.elim
theorem lx_pre : ∀ (p : List Str) {u v : List Str}, lx ι u v → lx ι (p ++ u) (p ++ v)
  | [], _, _, h => h
  | a :: p, _, _, h => .inr ⟨rfl, lx_pre p h⟩
theorem sl_irr (u : List Str) : ¬ sl ι u u := fun h => by
  rcases h with h | ⟨_, h⟩
  · exact Nat.lt_irrefl _ h
  · exact lx_irr u h
theorem sl_trans {u v w : List Str} (h : sl ι u v) (g : sl ι v w) : sl ι u w := by
  rcases h with h | ⟨e, h⟩
  · rcases g with g | ⟨f, _⟩
    · exact .inl (Nat.lt_trans h g)
    · exact .inl (f ▸ h)
  · rcases g with g | ⟨f, g⟩
    · exact .inl (e ▸ g)
    · exact .inr ⟨e.trans f, lx_trans h g⟩
theorem sl_snoc {u v : List Str} (a b : Str) (h : sl ι u v) : sl ι (u ++ [a]) (v ++ [b]) := by
  rcases h with h | ⟨e, h⟩
  · exact .inl (by simpa using h)
  · exact .inr ⟨by simpa using e, lx_app _ _ h⟩
theorem sl_last {u : List Str} {a b : Str} (h : ι a < ι b) : sl ι (u ++ [a]) (u ++ [b]) := .inr ⟨by simp, lx_pre u (.inl h)⟩
theorem sl_self (u : List Str) (a : Str) : sl ι u (u ++ [a]) := .inl (by simp)
end
/-- where a row of calls leads -/
def runC (c : Str → Nat → Int × Int) (s : Nat) (w : List Str) : Nat := w.foldl (fun s z => nx c z s) s
theorem runC_snoc {c : Str → Nat → Int × Int} {s : Nat} {w : List Str} {z : Str} : runC c s (w ++ [z]) = nx c z (runC c s w) := by
  unfold runC
  rw [List.foldl_append]
  rfl
theorem runC_app {c : Str → Nat → Int × Int} {s : Nat} {w v : List Str} : runC c s (w ++ v) = runC c (runC c s w) v := List.foldl_append
def noteR (c : Str → Nat → Int × Int) (s : Nat) (ρ : List Str) (g : List (Nat × List Str)) (z : Str) : List (Nat × List Str) := if nx c z s ∈ g.map (·.1) then g else g ++ [(nx c z s, ρ ++ [z])]
def bfsR (zs : List Str) (c : Str → Nat → Int × Int) (f0 : Nat) : Nat → List (Nat × List Str)
  | 0 => [(f0, [])]
  | i + 1 => match (bfsR zs c f0 i)[i]? with
    | some e => zs.foldl (noteR c e.1 e.2) (bfsR zs c f0 i)
    | none => bfsR zs c f0 i
theorem noteR_fst {c : Str → Nat → Int × Int} {s : Nat} {ρ : List Str} {g : List (Nat × List Str)} {z : Str} : (noteR c s ρ g z).map (·.1) = noteC c s (g.map (·.1)) z := by
  unfold noteR noteC
  split
  · rfl
  · rw [List.map_append]; rfl
theorem visitR_fst {c : Str → Nat → Int × Int} {s : Nat} {ρ : List Str} : ∀ (zs : List Str) (g : List (Nat × List Str)), (zs.foldl (noteR c s ρ) g).map (·.1) = visitC c s zs (g.map (·.1))
  | [], _ => rfl
  | z :: zs, g => by
    show (zs.foldl (noteR c s ρ) (noteR c s ρ g z)).map (·.1) = visitC c s zs (noteC c s (g.map (·.1)) z)
    rw [visitR_fst zs, noteR_fst]
theorem bfsR_fst {zs : List Str} {c : Str → Nat → Int × Int} {f0 : Nat} : ∀ i, (bfsR zs c f0 i).map (·.1) = fndC zs c f0 i
  | 0 => rfl
  | i + 1 => by
    have ih := bfsR_fst (zs := zs) (c := c) (f0 := f0) i
    have e2 : (fndC zs c f0 i)[i]? = ((bfsR zs c f0 i)[i]?).map (·.1) := by rw [← ih, List.getElem?_map]
    unfold bfsR fndC
    rw [e2]
    cases e : (bfsR zs c f0 i)[i]? with
    | none => exact ih
    | some x => exact (visitR_fst zs _).trans (by rw [ih]; rfl)
/-- what a search by breadth keeps: i pairs are visited, of the i-th one the names in done -/
structure BI (ι : Str → Nat) (zs : List Str) (c : Str → Nat → Int × Int) (f0 i : Nat) (dn : List Str) (g : List (Nat × List Str)) : Prop where
  root : g[0]? = some (f0, [])
  run : ∀ e ∈ g, runC c f0 e.2 = e.1
  sub : ∀ e ∈ g, ∀ z ∈ e.2, z ∈ zs
  inc : ∀ (a b : Nat) (e e' : Nat × List Str), a < b → g[a]? = some e → g[b]? = some e' → sl ι e.2 e'.2
  kid : ∀ e ∈ g, e.2 = [] ∨ ∃ (a : Nat) (e' : Nat × List Str) (y : Str), g[a]? = some e' ∧ (a < i ∨ (a = i ∧ y ∈ dn)) ∧ e.2 = e'.2 ++ [y]
  clo : ∀ (j : Nat) (e : Nat × List Str), g[j]? = some e → ∀ z, (j < i ∧ z ∈ zs) ∨ (j = i ∧ z ∈ dn) → ∃ (k : Nat) (e' : Nat × List Str), g[k]? = some e' ∧ e'.1 = nx c z e.1 ∧ (e'.2 = e.2 ++ [z] ∨ sl ι e'.2 (e.2 ++ [z]))
theorem BI.note {ι : Str → Nat} {zs : List Str} {c : Str → Nat → Int × Int} {f0 i s : Nat} {ρ dn : List Str} {g : List (Nat × List Str)} {z : Str} (h : BI ι zs c f0 i dn g) (ei : g[i]? = some (s, ρ)) (hz : z ∈ zs) (ho : ∀ y ∈ dn, ι y < ι z) : BI ι zs c f0 i (dn ++ [z]) (noteR c s ρ g z) ∧ (noteR c s ρ g z)[i]? = some (s, ρ) := by
  have big : ∀ e ∈ g, sl ι e.2 (ρ ++ [z]) := fun e he => by
    rcases h.kid e he with e0 | ⟨a, e', y, ea, hy, e2⟩
    · rw [e0]; exact .inl (by simp)
    · rw [e2]
      rcases hy with ha | ⟨ha, hy⟩
      · exact sl_snoc _ _ (h.inc a i _ _ ha ea ei)
      · subst ha
        rw [ei] at ea
        cases ea
        exact sl_last (ho y hy)
  unfold noteR
  by_cases w : nx c z s ∈ g.map (·.1)
  · rw [if_pos w]
    refine ⟨⟨h.root, h.run, h.sub, h.inc, fun e he => ?_, fun j e ej y hy => ?_⟩, ei⟩
    · rcases h.kid e he with e0 | ⟨a, e', y, ea, hy, e2⟩
      · exact .inl e0
      · exact .inr ⟨a, e', y, ea, hy.imp_right fun x => ⟨x.1, List.mem_append_left _ x.2⟩, e2⟩
    · rcases hy with hy | ⟨rfl, hy⟩
      · exact h.clo j e ej y (.inl hy)
      · rcases List.mem_append.mp hy with hy | hy
        · exact h.clo j e ej y (.inr ⟨rfl, hy⟩)
        · rw [List.mem_singleton.mp hy]
          rw [ei] at ej
          cases ej
          obtain ⟨e', he', e1⟩ := List.mem_map.mp w
          obtain ⟨k, ek⟩ := List.getElem?_of_mem he'
          exact ⟨k, e', ek, e1, .inr (big e' he')⟩
  · rw [if_neg w]
    have old : ∀ {k : Nat} {e : Nat × List Str}, g[k]? = some e → (g ++ [(nx c z s, ρ ++ [z])])[k]? = some e := fun {k e} ek => by
      rw [List.getElem?_append_left (List.getElem?_eq_some_iff.mp ek).1]; exact ek
    have new : ∀ {k : Nat} {e : Nat × List Str}, (g ++ [(nx c z s, ρ ++ [z])])[k]? = some e → g[k]? = some e ∨ (k = g.length ∧ e = (nx c z s, ρ ++ [z])) := fun {k e} ek => by
      rcases Nat.lt_trichotomy k g.length with x | x | x
      · rw [List.getElem?_append_left x] at ek; exact .inl ek
      · subst x
        rw [List.getElem?_append_right (Nat.le_refl _), Nat.sub_self] at ek
        cases ek
        exact .inr ⟨rfl, rfl⟩
      · rw [List.getElem?_append_right (by omega), List.getElem?_eq_none (by simp; omega)] at ek
        cases ek
    have rin : (s, ρ) ∈ g := List.mem_of_getElem? ei
    refine ⟨⟨old h.root, fun e he => ?_, fun e he => ?_, fun a b e e' ab ea eb => ?_, fun e he => ?_, fun j e ej y hy => ?_⟩, old ei⟩
    · rcases List.mem_append.mp he with he | he
      · exact h.run e he
      · rw [List.mem_singleton.mp he]
        rw [runC_snoc, h.run _ rin]
    · rcases List.mem_append.mp he with he | he
      · exact h.sub e he
      · rw [List.mem_singleton.mp he]
        intro y hy
        rcases List.mem_append.mp hy with hy | hy
        · exact h.sub _ rin y hy
        · rw [List.mem_singleton.mp hy]; exact hz
    · rcases new eb with eb | ⟨hb, rfl⟩
      · rcases new ea with ea | ⟨ha, _⟩
        · exact h.inc a b _ _ ab ea eb
        · have := (List.getElem?_eq_some_iff.mp eb).1
          omega
      · rcases new ea with ea | ⟨ha, _⟩
        · exact big _ (List.mem_of_getElem? ea)
        · omega
    · rcases List.mem_append.mp he with he | he
      · rcases h.kid e he with e0 | ⟨a, e', y, ea, hy, e2⟩
        · exact .inl e0
        · exact .inr ⟨a, e', y, old ea, hy.imp_right fun x => ⟨x.1, List.mem_append_left _ x.2⟩, e2⟩
      · rw [List.mem_singleton.mp he]
        exact .inr ⟨i, _, z, old ei, .inr ⟨rfl, List.mem_append_right _ List.mem_cons_self⟩, rfl⟩
    · have up : (∃ (k : Nat) (e' : Nat × List Str), g[k]? = some e' ∧ e'.1 = nx c y e.1 ∧ (e'.2 = e.2 ++ [y] ∨ sl ι e'.2 (e.2 ++ [y]))) → _ := fun ⟨k, e', ek, r⟩ => (⟨k, e', old ek, r⟩ : ∃ (k : Nat) (e' : Nat × List Str), (g ++ [(nx c z s, ρ ++ [z])])[k]? = some e' ∧ e'.1 = nx c y e.1 ∧ (e'.2 = e.2 ++ [y] ∨ sl ι e'.2 (e.2 ++ [y])))
      have il := (List.getElem?_eq_some_iff.mp ei).1
      have ej' : g[j]? = some e := by
        rcases new ej with x | ⟨x, _⟩
        · exact x
        · rcases hy with hy | hy <;> omega
      rcases hy with hy | ⟨rfl, hy⟩
      · exact up (h.clo j e ej' y (.inl hy))
      · rcases List.mem_append.mp hy with hy | hy
        · exact up (h.clo j e ej' y (.inr ⟨rfl, hy⟩))
        · rw [List.mem_singleton.mp hy]
          rw [ei] at ej'
          cases ej'
          exact ⟨g.length, _, by rw [List.getElem?_append_right (Nat.le_refl _), Nat.sub_self]; rfl, rfl, .inl rfl⟩
theorem BI.fold {ι : Str → Nat} {zs : List Str} {c : Str → Nat → Int × Int} {f0 i s : Nat} {ρ : List Str} : ∀ (rest dn : List Str) (g : List (Nat × List Str)), BI ι zs c f0 i dn g → g[i]? = some (s, ρ) → (∀ z ∈ rest, z ∈ zs) → rest.Pairwise (fun a b => ι a < ι b) → (∀ y ∈ dn, ∀ z ∈ rest, ι y < ι z) → BI ι zs c f0 i (dn ++ rest) (rest.foldl (noteR c s ρ) g)
  | [], dn, g, h, _, _, _, _ => by rw [List.append_nil]; exact h
  | z :: rest, dn, g, h, ei, hz, hp, ho => by
    obtain ⟨h1, e1⟩ := h.note ei (hz z List.mem_cons_self) fun y hy => ho y hy z List.mem_cons_self
    have hp2 := List.pairwise_cons.mp hp
    have := BI.fold rest (dn ++ [z]) _ h1 e1 (fun y hy => hz y (List.mem_cons_of_mem _ hy)) hp2.2 fun y hy x hx => by
      rcases List.mem_append.mp hy with hy | hy
      · exact ho y hy x (List.mem_cons_of_mem _ hx)
      · rw [List.mem_singleton.mp hy]; exact hp2.1 x hx
    rw [List.append_assoc] at this
    exact this
theorem bfs_BI {ι : Str → Nat} {zs : List Str} {c : Str → Nat → Int × Int} {f0 : Nat} (hp : zs.Pairwise (fun a b => ι a < ι b)) : ∀ i, BI ι zs c f0 i [] (bfsR zs c f0 i)
  | 0 => by
    have one : ∀ e ∈ bfsR zs c f0 0, e = (f0, []) := fun e he => List.mem_singleton.mp he
    refine ⟨rfl, fun e he => ?_, fun e he => ?_, fun a b e e' ab ea eb => ?_, fun e he => ?_, fun j e ej z hz => ?_⟩
    · rw [one e he]; rfl
    · rw [one e he]; exact fun z h => nomatch h
    · have := (List.getElem?_eq_some_iff.mp eb).1
      simp [bfsR] at this
      omega
    · rw [one e he]; exact .inl rfl
    · rcases hz with ⟨h, _⟩ | ⟨_, h⟩ <;> cases h
  | i + 1 => by
    have ih := bfs_BI (c := c) (f0 := f0) hp i
    unfold bfsR
    cases e : (bfsR zs c f0 i)[i]? with
    | none =>
      refine ⟨ih.root, ih.run, ih.sub, ih.inc, fun x hx => ?_, fun j x ej z hz => ?_⟩
      · rcases ih.kid x hx with e0 | ⟨a, e', y, ea, hy, e2⟩
        · exact .inl e0
        · refine .inr ⟨a, e', y, ea, ?_, e2⟩
          rcases hy with hy | ⟨_, hy⟩
          · exact .inl (by omega)
          · cases hy
      · rcases hz with ⟨h, hz⟩ | ⟨_, h⟩
        · by_cases w : j = i
          · subst w; rw [e] at ej; cases ej
          · exact ih.clo j x ej z (.inl ⟨by omega, hz⟩)
        · cases h
    | some q =>
      have h := BI.fold zs [] _ ih (s := q.1) (ρ := q.2) e (fun _ h => h) hp fun y hy => nomatch hy
      rw [List.nil_append] at h
      refine ⟨h.root, h.run, h.sub, h.inc, fun x hx => ?_, fun j x ej z hz => ?_⟩
      · rcases h.kid x hx with e0 | ⟨a, e', y, ea, hy, e2⟩
        · exact .inl e0
        · refine .inr ⟨a, e', y, ea, .inl ?_, e2⟩
          rcases hy with hy | ⟨hy, _⟩ <;> omega
      · rcases hz with ⟨hj, hz⟩ | ⟨_, hz⟩
        · by_cases w : j = i
          · exact h.clo j x ej z (.inr ⟨w, hz⟩)
          · exact h.clo j x ej z (.inl ⟨by omega, hz⟩)
        · cases hz
/-- each row that comes ahead of the i-th one leads to a pair that is found ahead of the i-th -/
theorem BI.least {ι : Str → Nat} {zs : List Str} {c : Str → Nat → Int × Int} {f0 i : Nat} {g : List (Nat × List Str)} {x : Nat} {ρ : List Str} (h : BI ι zs c f0 i [] g) (ei : g[i]? = some (x, ρ)) : ∀ w : List Str, (∀ z ∈ w, z ∈ zs) → sl ι w ρ → ∃ (j : Nat) (e : Nat × List Str), j < i ∧ g[j]? = some e ∧ e.1 = runC c f0 w ∧ (e.2 = w ∨ sl ι e.2 w) := by
  intro w
  refine snocInd (p := fun w => (∀ z ∈ w, z ∈ zs) → sl ι w ρ → ∃ (j : Nat) (e : Nat × List Str), j < i ∧ g[j]? = some e ∧ e.1 = runC c f0 w ∧ (e.2 = w ∨ sl ι e.2 w)) ?_ ?_ w
  · intro _ hs
    refine ⟨0, _, ?_, h.root, rfl, .inl rfl⟩
    rcases Nat.eq_zero_or_pos i with r | r
    · subst r
      have := h.root
      rw [ei] at this
      cases this
      exact absurd hs (sl_irr _)
    · exact r
  · intro v z ih hz hs
    obtain ⟨j, e, ji, ej, e1, e2⟩ := ih (fun y hy => hz y (List.mem_append_left _ hy)) (sl_trans (sl_self v z) hs)
    obtain ⟨k, e', ek, f1, f2⟩ := h.clo j e ej z (.inl ⟨ji, hz z (List.mem_append_right _ List.mem_cons_self)⟩)
    have le : e'.2 = v ++ [z] ∨ sl ι e'.2 (v ++ [z]) := by
      have a : e.2 ++ [z] = v ++ [z] ∨ sl ι (e.2 ++ [z]) (v ++ [z]) := e2.imp (fun q => by rw [q]) fun q => sl_snoc _ _ q
      rcases f2 with f2 | f2
      · rw [f2]; exact a
      · rcases a with a | a
        · rw [a] at f2; exact .inr f2
        · exact .inr (sl_trans f2 a)
    have lt : sl ι e'.2 ρ := by
      rcases le with le | le
      · rw [le]; exact hs
      · exact sl_trans le hs
    refine ⟨k, e', ?_, ek, by rw [f1, e1, runC_snoc], le⟩
    rcases Nat.lt_trichotomy k i with r | r | r
    · exact r
    · subst r
      rw [ei] at ek
      cases ek
      exact absurd lt (sl_irr _)
    · exact absurd (sl_trans lt (h.inc i k _ _ r ei ek)) (sl_irr _)
end My

set_option Elab.async false
set_option linter.all false
set_option maxRecDepth 100000
set_option maxHeartbeats 4000000
namespace My
open PySem L2 NdefX StX
abbrev s_row_to : Stmt := top 26
theorem sc_row_to : FnScope ["pair", "back", "row", "name"] ["pair", "back"] (defScope s_row_to) := ⟨rfl, rfl, rfl, by decide +kernel, rfl, by decide +kernel, by decide +kernel⟩
/-- where each pair was found from: G the codes and their rows, in order -/
def BackAt (P : Program) (w : World) (H : Hp) (sd : Addr) (n : Nat) (G : List (Nat × List Str)) : Prop := ∃ kvs, DnAt P w H sd kvs ∧ kvs.map (·.1) = (G.map (·.1)).map (keyG n) ∧ ∀ (i : Nat) (e : Nat × List Str), G[i]? = some e → ∃ t : Addr, kvs[i]? = some (keyG n e.1, V.ref t) ∧ ((i = 0 ∧ e.2 = [] ∧ H t = some (.tup [.non, .str ""])) ∨ ∃ (j : Nat) (e' : Nat × List Str) (qs : Addr) (z : Str), j < i ∧ G[j]? = some e' ∧ e.2 = e'.2 ++ [z] ∧ H t = some (.tup [.ref qs, .str z]) ∧ H qs = some (.tup [.int (e'.1 / n : Nat), .int (e'.1 % n : Nat)]))
theorem back_ent {H H' : Hp} {n : Nat} {G : List (Nat × List Str)} {kvs : List (NestedKey × V)} (k : ∀ b ys, H b = some (.tup ys) → H' b = some (.tup ys)) (h : ∀ (i : Nat) (e : Nat × List Str), G[i]? = some e → ∃ t : Addr, kvs[i]? = some (keyG n e.1, V.ref t) ∧ ((i = 0 ∧ e.2 = [] ∧ H t = some (.tup [.non, .str ""])) ∨ ∃ (j : Nat) (e' : Nat × List Str) (qs : Addr) (z : Str), j < i ∧ G[j]? = some e' ∧ e.2 = e'.2 ++ [z] ∧ H t = some (.tup [.ref qs, .str z]) ∧ H qs = some (.tup [.int (e'.1 / n : Nat), .int (e'.1 % n : Nat)]))) :
    ∀ (i : Nat) (e : Nat × List Str), G[i]? = some e → ∃ t : Addr, kvs[i]? = some (keyG n e.1, V.ref t) ∧ ((i = 0 ∧ e.2 = [] ∧ H' t = some (.tup [.non, .str ""])) ∨ ∃ (j : Nat) (e' : Nat × List Str) (qs : Addr) (z : Str), j < i ∧ G[j]? = some e' ∧ e.2 = e'.2 ++ [z] ∧ H' t = some (.tup [.ref qs, .str z]) ∧ H' qs = some (.tup [.int (e'.1 / n : Nat), .int (e'.1 % n : Nat)])) := fun i e ee => by
  obtain ⟨t, a, b⟩ := h i e ee
  refine ⟨t, a, ?_⟩
  rcases b with ⟨b1, b0, b2⟩ | ⟨j, e', qs, z, b1, b2, b0, b3, b4⟩
  · exact .inl ⟨b1, b0, k _ _ b2⟩
  · exact .inr ⟨j, e', qs, z, b1, b2, b0, k _ _ b3, k _ _ b4⟩
theorem BackAt.kp {P : Program} {w : World} {H H' : Hp} {sd : Addr} {n : Nat} {G : List (Nat × List Str)} (h : BackAt P w H sd n G) (k : Kp [] H H') : BackAt P w H' sd n G := by
  obtain ⟨kvs, a, b, c⟩ := h
  exact ⟨kvs, dn_kp a k, b, back_ent (fun b ys e => k _ _ not0 e) c⟩
theorem valN_at {kvs : List (NestedKey × V)} {F : List Nat} {n i x : Nat} {v : V} (hk : kvs.map (·.1) = F.map (keyG n)) (nd : F.Nodup) (e : kvs[i]? = some (keyG n x, v)) : valN kvs (keyG n x) = some v := by
  have ndk : (kvs.map (·.1)).Nodup := by
    rw [hk]
    exact List.pairwise_map.mpr (nd.imp fun h z => h (keyG_inj z))
  clear hk
  unfold valN
  induction kvs generalizing i with
  | nil => cases e
  | cons p r ih =>
    rw [List.map_cons, List.nodup_cons] at ndk
    cases i with
    | zero =>
      have e : some p = some (keyG n x, v) := e
      cases e
      rw [List.find?_cons_of_pos (by simp)]
      rfl
    | succ i =>
      have e : r[i]? = some (keyG n x, v) := e
      rw [List.find?_cons_of_neg]
      · exact ih e ndk.2
      · simp
        intro z
        exact ndk.1 (by rw [z]; exact List.mem_map.mpr ⟨_, List.mem_of_getElem? e, rfl⟩)
section
variable {P : Program} {w : World} {K : PySem.W.Frag} {mg : Str → Option Value} {base : Heap}
def spRowTo (P : Program) (w : World) : Sp := fun vs H Q _ => ∃ (qs sd : Addr) (n i : Nat) (e : Nat × List Str) (G : List (Nat × List Str)), vs = [.ref qs, .ref sd] ∧ BackAt P w H sd n G ∧ (G.map (·.1)).Nodup ∧ G.length ≤ 10000 ∧ G[i]? = some e ∧ H qs = some (.tup [.int (e.1 / n : Nat), .int (e.1 % n : Nat)]) ∧ ∀ l H', H l = none → H' l = some (.lst (e.2.map V.str)) → e.2.length ≤ 10000 → Kp [] H H' → Q (.ref l) H'
theorem key_dep {n x : Nat} : (keyG n x).depth ≤ 8 := by unfold keyG; simp only [NestedKey.depthAll, NestedKey.depth]; omega
/-- a pair or none is at hand -/
def RowW (n : Nat) (G : List (Nat × List Str)) (sd l : Addr) (H : Hp) (ρ : List Str) (k : Nat) (σ : L2.St) (H' : Hp) : Prop := ∃ (v0 : V) (nm : Str) (ys : List Str), σ = [some v0, some (.ref sd), some (.ref l), some (.str nm)] ∧ H' l = some (.lst (ys.map V.str)) ∧ Kp [] H H' ∧ ys.length + k ≤ G.length ∧ ((k = 0 ∧ v0 = .non ∧ ys.reverse = ρ) ∨ ∃ (j : Nat) (e : Nat × List Str) (qs : Addr), k = j + 1 ∧ G[j]? = some e ∧ v0 = .ref qs ∧ ρ = e.2 ++ nm :: ys.reverse ∧ H qs = some (.tup [.int (e.1 / n : Nat), .int (e.1 % n : Nat)]))
theorem ok_row_to {f : Addr} {fd : FuncData} (D : Df K mg "row_to" s_row_to ["pair", "back"] f fd) : FnOk P w K mg base CX0 1 f fd ["pair", "back"] (spRowTo P w) := by
  refine D.F.ok sc_row_to (fun vs H Q E h => ?_) (fun cdv A outer s H vs Q E hr h => ?_)
  · obtain ⟨_, _, _, _, _, _, rfl, _⟩ := h
    rfl
  · obtain ⟨qs, sd, n, i, e0, G, rfl, hB, nd, fl, ex, hq, q⟩ := h
    refine ⟨_, (pss_cons (ps_set (i := 2) sc_row_to.nd rfl (Or.inl rfl) (pe_lst pa_nil))
      (pss_cons (ps_asg (pe_nget hr.units (pv 1) (pv 0) (fun _ _ => rfl)) (pg_tup (n := 2) (by rfl) (pgs_cons (pg_name (i := 0) sc_row_to.nd rfl (Or.inl rfl)) (pgs_cons (pg_name (i := 3) sc_row_to.nd rfl (Or.inl rfl)) pgs_nil))))
      (pss_cons (ps_while PassesOwn.never (pt_cmpR op_notN (pv 0) pe_non (nomark _)) (pss_cons (ps_expr (pe_bm PySem.F.plainAttrs_list PySem.F.slot_list_append PySem.F.type_list_append mt_append (pv 2) (pa_cons (pv 3) pa_nil)))
      (pss_one (ps_asg (pe_nget hr.units (pv 1) (pv 0) (fun _ _ => rfl)) (pg_tup (n := 2) (by rfl) (pgs_cons (pg_name (i := 0) sc_row_to.nd rfl (Or.inl rfl)) (pgs_cons (pg_name (i := 3) sc_row_to.nd rfl (Or.inl rfl)) pgs_nil)))))))
      (pss_one (ps_ret (pe_revL (pv 2))))))), ?_⟩
    try simp (maxSteps := 1000000) only [tSeq, tIfS, tTest, tOp, tUn, tCB, tCons, tNil, tVar, tC, rI0, rI, rU, rEq, rNe, tRet, tRetN, tAsg, gName, gSub, tBM, tBM0, tNext, tB, tNot, tAnd, tOr, tIf, tCall, tDrop, tBreak, tCont, L2.start, tDGet, sDPut, tTup, tLst, tDNewK, tRevL, rCat, rAppend, rPop, rSetL, tAndV, tOrV, tNotV, tSl, tPart, tNoPart, tM1, gTup, gCons, gNil, cxK, cxnK, List.map_cons, List.map_nil, List.length_cons, List.length_nil, List.replicate, List.cons_append, List.nil_append, List.append_nil, List.set_cons_zero, List.set_cons_succ, List.getElem?_cons_zero, List.getElem?_cons_succ, Option.some.injEq, V.ref.injEq, V.int.injEq, V.str.injEq, V.bl.injEq, V.ty.injEq, exists_eq_left', exists_eq_left, exists_and_left, List.cons.injEq, and_true, true_and, sc_ii, sc_ss, sc_bb, sc_ni, sc_in, sc_is, sc_si, sc_nn, decide_true, decide_false, reduceCtorEq, Bool.false_eq_true, if_true, if_false, ite_true, ite_false, exists_const, eq_self, false_and, and_false, or_false, false_or, exists_false, Evl.rLenS, rSum, wipe, tYes, exists_eq, exists_eq', rIxL, rIxT, rIxS, exists_and_right, gt_iff_lt, not_true_eq_false, not_false_eq_true, Bool.not_true, Bool.not_false, decide_eq_true_eq, Nat.reduceSub, Nat.reduceAdd, List.append_assoc, tChain, tDIn, tDNotIn, sDDel, tAug, ipI, tNGet]
    refine ⟨by decide, fun l nl => ?_⟩
    have kl := (Kp.new nl : Kp [] H (upd H l (.lst [])))
    -- one look-up
    have look : ∀ (H' : Hp) (j : Nat) (e : Nat × List Str) (qs : Addr), Kp [] H H' → G[j]? = some e → H qs = some (.tup [.int (e.1 / n : Nat), .int (e.1 % n : Nat)]) → ∃ kvs a v0 nm, DnAt P w H' sd kvs ∧ NKey H' (.ref qs) (keyG n e.1) ∧ valN kvs (keyG n e.1) = some (.ref a) ∧ H' a = some (.tup [v0, .str nm]) ∧ ((v0 = .non ∧ e.2 = []) ∨ ∃ (j' : Nat) (e' : Nat × List Str) (qs' : Addr), j' < j ∧ G[j']? = some e' ∧ v0 = .ref qs' ∧ e.2 = e'.2 ++ [nm] ∧ H qs' = some (.tup [.int (e'.1 / n : Nat), .int (e'.1 % n : Nat)])) := fun H' j e qs k ey hq => by
      obtain ⟨kvs, hd, hk, hent⟩ := id hB
      obtain ⟨t, et, ht⟩ := hent j e ey
      refine ⟨kvs, t, ?_⟩
      rcases ht with ⟨_, h0, ht⟩ | ⟨j', e', qs', z, h1, h2, h0, h3, h4⟩
      · exact ⟨.non, "", dn_kp hd k, ⟨qs, rfl, .tup (k _ _ not0 hq) (.cons (.int _) (.cons (.int _) .nil)), key_dep⟩, valN_at hk nd et, k _ _ not0 ht, .inl ⟨rfl, h0⟩⟩
      · exact ⟨.ref qs', z, dn_kp hd k, ⟨qs, rfl, .tup (k _ _ not0 hq) (.cons (.int _) (.cons (.int _) .nil)), key_dep⟩, valN_at hk nd et, k _ _ not0 h3, .inr ⟨j', e', qs', h1, h2, rfl, h0, h4⟩⟩
    obtain ⟨kvs, a, v0, nm, hd, hkey, hval, ha, hv0⟩ := look _ i e0 qs kl ex hq
    refine ⟨kvs, hd, _, hkey, _, hval, a, rfl, _, sq_t ha, rfl, _, _, rfl, _, _, rfl, rfl, ?_⟩
    have il : i < G.length := (List.getElem?_eq_some_iff.mp ex).1
    have start : ∃ k, RowW n G sd l H e0.2 k [some v0, some (.ref sd), some (.ref l), some (.str nm)] (upd H l (.lst [])) := by
      rcases hv0 with ⟨rfl, h0⟩ | ⟨j', e', qs', h1, h2, rfl, h0, h4⟩
      · exact ⟨0, .non, nm, [], rfl, upd_same, kl, by show 0 + 0 ≤ _; omega, .inl ⟨rfl, rfl, h0.symm⟩⟩
      · exact ⟨j' + 1, .ref qs', nm, [], rfl, upd_same, kl, by show 0 + (j' + 1) ≤ _; omega, .inr ⟨j', e', qs', rfl, h2, rfl, h0, h4⟩⟩
    obtain ⟨k0, hstart⟩ := start
    refine ⟨RowW n G sd l H e0.2, ⟨_, hstart⟩, ?_⟩
    rintro k σ H1 ⟨v1, nm1, ys, rfl, hl, k1, hlen, hcase⟩
    try simp (maxSteps := 1000000) only [tSeq, tIfS, tTest, tOp, tUn, tCB, tCons, tNil, tVar, tC, rI0, rI, rU, rEq, rNe, tRet, tRetN, tAsg, gName, gSub, tBM, tBM0, tNext, tB, tNot, tAnd, tOr, tIf, tCall, tDrop, tBreak, tCont, L2.start, tDGet, sDPut, tTup, tLst, tDNewK, tRevL, rCat, rAppend, rPop, rSetL, tAndV, tOrV, tNotV, tSl, tPart, tNoPart, tM1, gTup, gCons, gNil, cxK, cxnK, List.map_cons, List.map_nil, List.length_cons, List.length_nil, List.replicate, List.cons_append, List.nil_append, List.append_nil, List.set_cons_zero, List.set_cons_succ, List.getElem?_cons_zero, List.getElem?_cons_succ, Option.some.injEq, V.ref.injEq, V.int.injEq, V.str.injEq, V.bl.injEq, V.ty.injEq, exists_eq_left', exists_eq_left, exists_and_left, List.cons.injEq, and_true, true_and, sc_ii, sc_ss, sc_bb, sc_ni, sc_in, sc_is, sc_si, sc_nn, decide_true, decide_false, reduceCtorEq, Bool.false_eq_true, if_true, if_false, ite_true, ite_false, exists_const, eq_self, false_and, and_false, or_false, false_or, exists_false, Evl.rLenS, rSum, wipe, tYes, exists_eq, exists_eq', rIxL, rIxT, rIxS, exists_and_right, gt_iff_lt, not_true_eq_false, not_false_eq_true, Bool.not_true, Bool.not_false, decide_eq_true_eq, Nat.reduceSub, Nat.reduceAdd, List.append_assoc, tChain, tDIn, tDNotIn, sDDel, tAug, ipI, tNGet]
    rcases hcase with ⟨rfl, rfl, hys⟩ | ⟨j, e, qs1, rfl, ey, rfl, hρ, hq1⟩
    · rw [decide_eq_true rfl, if_neg (by decide)]
      refine ⟨_, sq_l hl, fun p np => q p _ (noneB k1 np) (by rw [upd_same, ← hys, List.map_reverse]) (by rw [← hys, List.length_reverse]; omega) (k1.trans (Kp.new np))⟩
    · rw [decide_eq_false (fun z => by cases z), if_pos (by rfl)]
      have k2 := k1.wr (o := .lst (ys.map V.str ++ [.str nm1])) nl
      have jl : j < G.length := (List.getElem?_eq_some_iff.mp ey).1
      obtain ⟨kvs2, a2, v2, nm2, hd2, hkey2, hval2, ha2, hv2⟩ := look _ j e qs1 k2 ey hq1
      refine ⟨fun σ' H' => ∃ m', m' < j + 1 ∧ RowW n G sd l H e0.2 m' σ' H', fun _ _ h => h, .inl ⟨rfl, _, sq_l hl⟩, _, hl, smallL (by rw [List.length_map]; omega), kvs2, hd2, _, hkey2, _, hval2, a2, rfl, _, sq_t ha2, rfl, _, _, rfl, _, _, rfl, rfl, ?_⟩
      rcases hv2 with ⟨rfl, h0⟩ | ⟨j', e', qs', h1, h2, rfl, h0, h4⟩
      · exact ⟨0, by omega, .non, nm2, ys ++ [nm1], rfl, by rw [upd_same, List.map_append]; rfl, k2, by rw [List.length_append, List.length_singleton]; omega, .inl ⟨rfl, rfl, by rw [hρ, h0, List.reverse_append]; rfl⟩⟩
      · exact ⟨j' + 1, by omega, .ref qs', nm2, ys ++ [nm1], rfl, by rw [upd_same, List.map_append]; rfl, k2, by rw [List.length_append, List.length_singleton]; omega, .inr ⟨j', e', qs', rfl, h2, rfl, by rw [hρ, h0, List.reverse_append, List.append_assoc]; rfl, h4⟩⟩
end
end My

set_option Elab.async false
set_option linter.all false
set_option maxRecDepth 100000
set_option maxHeartbeats 4000000
namespace My
open PySem L2 NdefX StX
abbrev s_OtherNames_init : Stmt := mtop 8 0
theorem sc_OtherNames_init : NScope ["self", "__class__"] ["self"] ["__class__"] (defScope s_OtherNames_init) := nscope_by (by decide +kernel)
theorem ok_OtherNames_init {P : Program} {w : World} {K : PySem.W.Frag} {mg : Str → Option Value} {base : Heap} {CX : CXT} {f cc cda C : Addr} {fd : FuncData} (F : FunX K "__init__" "OtherNames.__init__" s_OtherNames_init f fd cc cda C) (T : ErrC K C) (G : CodeF K P cda) (hsup : mg "super" = none) :
    FnOk P w K mg base CX 1 f fd ["self"] (spErr0 C) := by
  have F0 := F
  obtain ⟨oc, od, kV, doc, pm, an, ct, osl, hfd, lk, hcd⟩ := F0.ex
  obtain ⟨cl, cld, csl, hcc⟩ := F0.cell
  refine F.ok sc_OtherNames_init (fun vs H Q E h => ?_) (fun A outer s H vs Q E hr h => ?_)
  · obtain ⟨a, rfl, _⟩ := h
    rfl
  · obtain ⟨a, rfl, ha, q⟩ := h
    refine ⟨_, psat_cons (psat_sup T G lk (by rw [hfd]; rfl) hcc hsup rfl rfl rfl rfl rfl rfl rfl (pa_cons pe_str pa_nil) rfl rfl rfl rfl rfl) pss_nil, ?_⟩
    try simp (maxSteps := 1000000) only [tSeq, tIfS, tTest, tOp, tUn, tCB, tCons, tNil, tVar, tC, rI0, rI, rU, rEq, rNe, tRet, tRetN, tAsg, gName, gSub, tBM, tBM0, tNext, tB, tNot, tAnd, tOr, tIf, tCall, tDrop, tBreak, tCont, L2.start, tDGet, sDPut, tTup, tLst, tDNewK, tRevL, rCat, rAppend, rPop, rSetL, tAndV, tOrV, tNotV, tSl, tPart, tNoPart, tM1, gTup, gCons, gNil, cxK, cxnK, List.map_cons, List.map_nil, List.length_cons, List.length_nil, List.replicate, List.cons_append, List.nil_append, List.append_nil, List.set_cons_zero, List.set_cons_succ, List.getElem?_cons_zero, List.getElem?_cons_succ, Option.some.injEq, V.ref.injEq, V.int.injEq, V.str.injEq, V.bl.injEq, V.ty.injEq, exists_eq_left', exists_eq_left, exists_and_left, List.cons.injEq, and_true, true_and, sc_ii, sc_ss, sc_bb, sc_ni, sc_in, sc_is, sc_si, sc_nn, decide_true, decide_false, reduceCtorEq, Bool.false_eq_true, if_true, if_false, ite_true, ite_false, exists_const, eq_self, false_and, and_false, or_false, false_or, exists_false, Evl.rLenS, rSum, wipe, tYes, exists_eq, exists_eq', rIxL, rIxT, rIxS, exists_and_right, gt_iff_lt, not_true_eq_false, not_false_eq_true, Bool.not_true, Bool.not_false, decide_eq_true_eq, Nat.reduceSub, Nat.reduceAdd, List.append_assoc, tChain, tDIn, tDNotIn, sDDel, tAug, ipI, startF, tSupI]
    exact ⟨ha, by decide, ha, q⟩
abbrev s_meeting : Stmt := top 25
theorem sc_meeting : FnScope ["a", "b", "found", "back", "at", "pair", "name", "answer", "goal", "other_answer", "other_goal"] ["a", "b"] (defScope s_meeting) := ⟨rfl, rfl, rfl, by decide +kernel, rfl, by decide +kernel, by decide +kernel⟩
structure BtM (mg : Str → Option Value) : Prop where
  b_len : mg "len" = none
  b_sorted : mg "sorted" = none
def PwB (P : Program) (w : World) (n : Nat) (H : Hp) (p sd : Addr) (f : List Nat) (G : List (Nat × List Str)) (H' : Hp) : Prop := ((∃ ps, H' p = some (.lst ps) ∧ PrsG H' n ps f) ∧ G.map (·.1) = f) ∧ BackAt P w H' sd n G ∧ Kp [] H H'
theorem PwB.kp {P : Program} {w : World} {n : Nat} {H H1 H2 : Hp} {p sd : Addr} {f : List Nat} {G : List (Nat × List Str)} (h : PwB P w n H p sd f G H1) (k : Kp [] H1 H2) : PwB P w n H p sd f G H2 := by
  obtain ⟨⟨⟨ps, a, b⟩, e⟩, c, r⟩ := h
  exact ⟨⟨⟨ps, k _ _ not0 a, b.tp fun b ys e => k _ _ not0 e⟩, e⟩, c.kp k, r.trans k⟩
theorem noteR_def {c : Str → Nat → Int × Int} {s : Nat} {ρ : List Str} {g : List (Nat × List Str)} {z : Str} : noteR c s ρ g z = if nx c z s ∈ g.map (·.1) then g else g ++ [(nx c z s, ρ ++ [z])] := rfl
theorem visitR_get {c : Str → Nat → Int × Int} {s : Nat} {ρ : List Str} : ∀ {zs : List Str} {g : List (Nat × List Str)} {i : Nat} {e : Nat × List Str}, g[i]? = some e → (zs.foldl (noteR c s ρ) g)[i]? = some e
  | [], _, _, _, h => h
  | z :: zs, g, i, e, h => by
    refine visitR_get (zs := zs) (g := noteR c s ρ g z) ?_
    unfold noteR
    split
    · exact h
    · rw [List.getElem?_append_left (List.getElem?_eq_some_iff.mp h).1]; exact h
theorem visitR_snoc {c : Str → Nat → Int × Int} {s j : Nat} {ρ : List Str} {zs : List Str} {g : List (Nat × List Str)} {z : Str} (e : zs[j]? = some z) : (zs.take (j + 1)).foldl (noteR c s ρ) g = noteR c s ρ ((zs.take j).foldl (noteR c s ρ) g) z := by
  rw [take_snoc e, List.foldl_append]
  rfl
theorem bfsR_succ {zs : List Str} {c : Str → Nat → Int × Int} {f0 i s : Nat} {ρ : List Str} (e : (bfsR zs c f0 i)[i]? = some (s, ρ)) : bfsR zs c f0 (i + 1) = zs.foldl (noteR c s ρ) (bfsR zs c f0 i) := by
  conv => lhs; unfold bfsR
  rw [e]
theorem eqvAll_strs : ∀ ys zs : List Str, PyData.eqvAll (ys.map PyData.str) (zs.map PyData.str) = decide (ys = zs)
  | [], [] => rfl
  | [], _ :: _ => rfl
  | _ :: _, [] => rfl
  | y :: ys, z :: zs => by
    show (PyData.eqv (.str y) (.str z) && PyData.eqvAll (ys.map PyData.str) (zs.map PyData.str)) = _
    rw [eqvAll_strs ys zs]
    by_cases h : y = z
    · subst h
      simp [PyData.eqv]
    · simp [PyData.eqv, h]
theorem eqv_strs (ys zs : List Str) : PyData.eqv (.list (ys.map PyData.str)) (.list (zs.map PyData.str)) = decide (ys = zs) := eqvAll_strs ys zs
/-- the row that a search by breadth comes to first -/
def FirstRow (zs : List Str) (c c' : Str → Nat → Int × Int) (n f0 : Nat) (row : List Str) : Prop := ∃ (i x j : Nat) (ρ : List Str) (z : Str), row = ρ ++ [z] ∧ (bfsR zs (pairC c c' n) f0 i)[i]? = some (x, ρ) ∧ (∀ (i' x' : Nat), i' < i → (fndC zs (pairC c c' n) f0 i)[i']? = some x' → ∀ z ∈ zs, (c z (x' / n)).1 = (c' z (x' % n)).1) ∧ zs[j]? = some z ∧ (∀ y ∈ zs.take j, (c y (x / n)).1 = (c' y (x % n)).1) ∧ (c z (x / n)).1 ≠ (c' z (x % n)).1
/-- all answers of a pair are the same -/
def AnsEq (zs : List Str) (c c' : Str → Nat → Int × Int) (n x : Nat) : Prop := ∀ z ∈ zs, (c z (x / n)).1 = (c' z (x % n)).1
/-- the tables are alike -/
def Alike (zs : List Str) (c c' : Str → Nat → Int × Int) (m n f0 g0 : Nat) : Prop := ∃ S, Alk zs c c' m n f0 g0 S
section
variable {P : Program} {w : World} {K : PySem.W.Frag} {mg : Str → Option Value} {base : Heap}
def spMeet (TC ON : Addr) : Sp := fun vs H Q E => ∃ (oa ob : Addr) (m n f0 g0 : Nat) (zs zs' : List Str) (c c' : Str → Nat → Int × Int), vs = [.ref oa, .ref ob] ∧ TabIs TC H oa zs m (f0 : Nat) c ∧ TabIs TC H ob zs' n (g0 : Nat) c' ∧
  (zs'.Perm zs → Alike zs c c' m n f0 g0 → ∀ tp l ps H', H tp = none → H' tp = some (.tup [.ref l, .non]) → H l = none → H' l = some (.lst ps) → PrsG H' n ps (fndC zs (pairC c c' n) (f0 * n + g0) (m * n)) → Kp [] H H' → Q (.ref tp) H') ∧
  (zs'.Perm zs → ¬ Alike zs c c' m n f0 g0 → ∀ tp l r row H', H tp = none → H' tp = some (.tup [.ref l, .ref r]) → H r = none → H' r = some (.lst (row.map V.str)) → FirstRow zs c c' n (f0 * n + g0) row → Kp [] H H' → Q (.ref tp) H') ∧
  (¬ zs'.Perm zs → ∀ H', Kp [] H H' → E (.ref ON) none H')
def WMe (P : Program) (w : World) (zs : List Str) (c1 c' c : Str → Nat → Int × Int) (n f0 m : Nat) (oa ob p sd : Addr) (H : Hp) (k : Nat) (σ : L2.St) (H' : Hp) : Prop := ∃ (i : Nat) (c5 c6 c7 c8 c9 c10 : Option V), σ = [some (.ref oa), some (.ref ob), some (.ref p), some (.ref sd), some (.int (i : Nat)), c5, c6, c7, c8, c9, c10] ∧ PwB P w n H p sd (fndC zs c f0 i) (bfsR zs c f0 i) H' ∧ (∀ (i' x : Nat), i' < i → (fndC zs c f0 i)[i']? = some x → AnsEq zs c1 c' n x) ∧ i ≤ (fndC zs c f0 i).length ∧ k = m + 1 - i
theorem ok_meeting {f : Addr} {fd : FuncData} (D : Df K mg "meeting" s_meeting ["a", "b"] f fd) (T : BtM mg) {TC NO BN ON fO fN fC : Addr} {fdO fdN fdC : FuncData} (C : TbC K mg TC) (E_OtherNames : Er0 P w K mg base "OtherNames" ON fO fdO ["self"]) {fr : Addr} {fdr : FuncData} (D_row_to : Df K mg "row_to" s_row_to ["pair", "back"] fr fdr) (G_row_to : FnOk P w K mg base CX0 1 fr fdr ["pair", "back"] (spRowTo P w))
    (ME_Table_names : Meth K TC "names" fN) (bM_Table_names : Binds K fdN ["self"] []) (G_Table_names : FnOk P w K mg base CX0 1 fN fdN ["self"] (spTN TC))
    (CO_Table : CallO K TC fC) (bC_Table : Binds K fdC ["self", "name", "state"] []) (G_Table_call0 : FnOk P w K mg base (L2.CX P w) 4 fC fdC ["self", "name", "state"] (spTCall TC NO BN)) : FnOk P w K mg base (L2.CX P w) 6 f fd ["a", "b"] (spMeet TC ON) := by
  refine D.F.okX sc_meeting (fun vs H Q E h => ?_) (fun cdv A outer s H vs Q E hr h => ?_)
  · obtain ⟨_, _, _, _, _, _, _, _, _, _, rfl, _⟩ := h
    rfl
  · obtain ⟨oa, ob, m1, n, s0, t0, zs, zs', c1, c', rfl, ⟨rsa, hTa, ea, ca⟩, ⟨rsb, hTb, eb, cb⟩, qA, qB, qE⟩ := h
    have hu := hu_of hr
    have G_Table_call := G_Table_call0.toR bC_Table
    refine ⟨_, (pss_cons (ps_if (pt_cmpR (op_neD hr.units) (pe_callB (id := "sorted") (r := rSortedS K) cr_sortedS (by rfl) T.b_sorted (by decide +kernel) (pa_cons (pe_meth0 (pv 0) C.cl ME_Table_names G_Table_names (hr.mono (by decide)) bM_Table_names .nil pass0) pa_nil)) (pe_callB (id := "sorted") (r := rSortedS K) cr_sortedS (by rfl) T.b_sorted (by decide +kernel) (pa_cons (pe_meth0 (pv 1) C.cl ME_Table_names G_Table_names (hr.mono (by decide)) bM_Table_names .nil pass0) pa_nil)) (nomark _)) (pss_one (ps_raise rfl (takes_of rfl rfl rfl rfl) (pmk_oex0 E_OtherNames.ox E_OtherNames.ic E_OtherNames.ti E_OtherNames.G (hr.mono (by decide)) E_OtherNames.b passL rfl E_OtherNames.k))) pss_nil)
      (pss_cons (ps_set (i := 2) sc_meeting.nd rfl (Or.inl rfl) (pe_lst (pa_cons (pe_tup (pa_cons (pe_fld (pv 0) rfl) (pa_cons (pe_fld (pv 1) rfl) pa_nil))) pa_nil)))
      (pss_cons (ps_set (i := 3) sc_meeting.nd rfl (Or.inl rfl) (pe_dispN hr.units (pe_ix (r := rIxL K) ix_list (pv 2) pe_int (fun _ _ => rfl)) (pe_tup (pa_cons pe_non (pa_cons pe_str pa_nil)))))
      (pss_cons (ps_set (i := 4) sc_meeting.nd rfl (Or.inl rfl) pe_int)
      (pss_cons (ps_while (passes_of rfl) (pt_cmpR op_lt (pv 4) (pe_callB (id := "len") (r := Evl.rLenS K) call_len_seq (by rfl) T.b_len PySem.boot_len (pa_cons (pv 2) pa_nil)) (nomark _)) (pss_cons (ps_set (i := 5) sc_meeting.nd rfl (Or.inl rfl) (pe_ix (r := rIxL K) ix_list (pv 2) (pv 4) (fun _ _ => rfl)))
      (pss_cons (ps_for (passes_of rfl) rfl (pi_list (pe_meth0 (pv 0) C.cl ME_Table_names G_Table_names (hr.mono (by decide)) bM_Table_names .nil pass0)) (pg_name (i := 6) sc_meeting.nd rfl (Or.inl rfl)) (pss_cons (ps_asg (pe_callO (pv 0) CO_Table G_Table_call (hr.mono (by decide)) (passes_call (E := E) (takes_of rfl rfl rfl rfl) (fun _ _ _ _ h => h)) (pa_cons (pv 6) (pa_cons (pe_ix (r := rIxT K) ix_tup (pv 5) pe_int (fun _ _ => rfl)) pa_nil))) (pg_tup (n := 2) (by rfl) (pgs_cons (pg_name (i := 7) sc_meeting.nd rfl (Or.inl rfl)) (pgs_cons (pg_name (i := 8) sc_meeting.nd rfl (Or.inl rfl)) pgs_nil))))
      (pss_cons (ps_asg (pe_callO (pv 1) CO_Table G_Table_call (hr.mono (by decide)) (passes_call (E := E) (takes_of rfl rfl rfl rfl) (fun _ _ _ _ h => h)) (pa_cons (pv 6) (pa_cons (pe_ix (r := rIxT K) ix_tup (pv 5) pe_int (fun _ _ => rfl)) pa_nil))) (pg_tup (n := 2) (by rfl) (pgs_cons (pg_name (i := 9) sc_meeting.nd rfl (Or.inl rfl)) (pgs_cons (pg_name (i := 10) sc_meeting.nd rfl (Or.inl rfl)) pgs_nil))))
      (pss_cons (ps_if (pt_cmpR op_ne (pv 7) (pv 9) (nomark _)) (pss_one (ps_ret (pe_tup (pa_cons (pv 2) (pa_cons (pe_op op_cat (pe_call G_row_to (hr.mono (by decide)) rfl D_row_to.g D_row_to.F.kp D_row_to.b .nil pass0 (pa_cons (pv 5) (pa_cons (pv 3) pa_nil))) (pe_lst (pa_cons (pv 6) pa_nil))) pa_nil))))) pss_nil)
      (pss_one (ps_if (pt_cmp (pc_nnotin hr.units (pe_tup (pa_cons (pv 8) (pa_cons (pv 10) pa_nil))) (pv 3))) (pss_cons (ps_nput hr.units (pv 3) (pe_tup (pa_cons (pv 8) (pa_cons (pv 10) pa_nil))) (pe_tup (pa_cons (pv 5) (pa_cons (pv 6) pa_nil))) rfl)
      (pss_one (ps_expr (pe_bm PySem.F.plainAttrs_list PySem.F.slot_list_append PySem.F.type_list_append mt_append (pv 2) (pa_cons (pe_tup (pa_cons (pv 8) (pa_cons (pv 10) pa_nil))) pa_nil))))) pss_nil))))))
      (pss_one (ps_aug (i := 4) sc_meeting.nd rfl (Or.inl rfl) pe_int ip_add)))))
      (pss_one (ps_ret (pe_tup (pa_cons (pv 2) (pa_cons pe_non pa_nil)))))))))), ?_⟩
    obtain ⟨dxa, dda, hoa⟩ := hTa.head
    obtain ⟨dxb, ddb, hob⟩ := hTb.head
    have bTa := hTa.bnd
    have bTb := hTb.bnd
    have nd : zs.Nodup := by rw [← ea]; exact bTa.2.2.2.2.2.2.2
    have z6 : zs.length ≤ 6 := by rw [← ea]; unfold namesOf; rw [List.length_map]; exact bTa.2.1
    have z6' : zs'.length ≤ 6 := by rw [← eb]; unfold namesOf; rw [List.length_map]; exact bTb.2.1
    have cTa := hTa.cells
    have cTb := hTb.cells
    try simp (maxSteps := 1000000) only [tSeq, tIfS, tTest, tOp, tUn, tCB, tCons, tNil, tVar, tC, rI0, rI, rU, rEq, rNe, tRet, tRetN, tAsg, gName, gSub, tBM, tBM0, tNext, tB, tNot, tAnd, tOr, tIf, tCall, tDrop, tBreak, tCont, L2.start, tDGet, sDPut, tTup, tLst, tDNewK, tRevL, rCat, rAppend, rPop, rSetL, tAndV, tOrV, tNotV, tSl, tPart, tNoPart, tM1, gTup, gCons, gNil, cxK, cxnK, List.map_cons, List.map_nil, List.length_cons, List.length_nil, List.replicate, List.cons_append, List.nil_append, List.append_nil, List.set_cons_zero, List.set_cons_succ, List.getElem?_cons_zero, List.getElem?_cons_succ, Option.some.injEq, V.ref.injEq, V.int.injEq, V.str.injEq, V.bl.injEq, V.ty.injEq, exists_eq_left', exists_eq_left, exists_and_left, List.cons.injEq, and_true, true_and, sc_ii, sc_ss, sc_bb, sc_ni, sc_in, sc_is, sc_si, sc_nn, decide_true, decide_false, reduceCtorEq, Bool.false_eq_true, if_true, if_false, ite_true, ite_false, exists_const, eq_self, false_and, and_false, or_false, false_or, exists_false, Evl.rLenS, rSum, wipe, tYes, exists_eq, exists_eq', rIxL, rIxT, rIxS, exists_and_right, gt_iff_lt, not_true_eq_false, not_false_eq_true, Bool.not_true, Bool.not_false, decide_eq_true_eq, Nat.reduceSub, Nat.reduceAdd, List.append_assoc, tChain, tDIn, tDNotIn, sDDel, tAug, ipI, tMeth, tFld]
    have ea' : rsa.map (·.1) = zs := ea
    have eb' : rsb.map (·.1) = zs' := eb
    refine ⟨dxa, _, hoa, rfl, oa, m1, (s0 : Nat), rsa, rfl, hTa, fun l1 H1 nl1 hl1 k1 => ?_⟩
    rw [ea'] at hl1
    refine ⟨l1, zs, rfl, sq_l hl1, by omega, fun ys1 p1 pm1 so1 np1 => ?_⟩
    have k2 := (Kp.new np1 : Kp [] H1 (upd H1 p1 (.lst (ys1.map V.str))))
    have k02 := k1.trans k2
    refine ⟨dxb, _, k02 _ _ not0 hob, rfl, ob, n, (t0 : Nat), rsb, rfl, hTb.kp k02, fun l2 H3 nl2 hl2 k3 => ?_⟩
    rw [eb'] at hl2
    refine ⟨l2, zs', rfl, sq_l hl2, by omega, fun ys2 p2 pm2 so2 np2 => ?_⟩
    have k4 := (Kp.new np2 : Kp [] H3 (upd H3 p2 (.lst (ys2.map V.str))))
    have nms : ∀ z ∈ zs, nameS z = true := by rw [← ea]; exact bTa.2.2.1
    have nms' : ∀ z ∈ zs', nameS z = true := by rw [← eb]; exact bTb.2.2.1
    have sh := shaped_names (zs := ys1) fun z hz => nms z (pm1.mem_iff.mp hz)
    have sh2 := shaped_names (zs := ys2) fun z hz => nms' z (pm2.mem_iff.mp hz)
    have hp14 := (k3.trans k4) _ _ not0 (upd_same (H := H1) (a := p1) (o := .lst (ys1.map V.str)))
    refine ⟨_, _, .lst (sq_l hp14) (dpStrs ys1), .lst (sq_l upd_same) (dpStrs ys2), sh, sh2, _, rfl, ?_⟩
    by_cases hperm : zs'.Perm zs
    case neg =>
      rw [eqv_strs, decide_eq_false (fun e => hperm (by subst e; exact pm2.symm.trans pm1)), if_pos (by rfl)]
      exact qE hperm _ ((k02.trans k3).trans k4)
    have eys : ys1 = ys2 := sorted_uniq so1 so2 (pm1.trans (hperm.symm.trans pm2.symm))
    subst eys
    have zperm : ∀ z, z ∈ zs ↔ z ∈ zs' := fun z => (hperm.mem_iff (a := z)).symm
    rw [SeqAt.eqv_refl _ (SeqAt.canLay_of_shaped sh)]
    rw [if_neg (by decide)]
    have k04 := (k02.trans k3).trans k4
    clear hp14
    generalize upd H3 p2 (.lst (ys1.map V.str)) = H4 at k04
    have two : (2 : Nat) ≤ sizeLine := by rw [sizeLine_eq]; decide
    try simp (maxSteps := 1000000) only [tSeq, tIfS, tTest, tOp, tUn, tCB, tCons, tNil, tVar, tC, rI0, rI, rU, rEq, rNe, tRet, tRetN, tAsg, gName, gSub, tBM, tBM0, tNext, tB, tNot, tAnd, tOr, tIf, tCall, tDrop, tBreak, tCont, L2.start, tDGet, sDPut, tTup, tLst, tDNewK, tRevL, rCat, rAppend, rPop, rSetL, tAndV, tOrV, tNotV, tSl, tPart, tNoPart, tM1, gTup, gCons, gNil, cxK, cxnK, List.map_cons, List.map_nil, List.length_cons, List.length_nil, List.replicate, List.cons_append, List.nil_append, List.append_nil, List.set_cons_zero, List.set_cons_succ, List.getElem?_cons_zero, List.getElem?_cons_succ, Option.some.injEq, V.ref.injEq, V.int.injEq, V.str.injEq, V.bl.injEq, V.ty.injEq, exists_eq_left', exists_eq_left, exists_and_left, List.cons.injEq, and_true, true_and, sc_ii, sc_ss, sc_bb, sc_ni, sc_in, sc_is, sc_si, sc_nn, decide_true, decide_false, reduceCtorEq, Bool.false_eq_true, if_true, if_false, ite_true, ite_false, exists_const, eq_self, false_and, and_false, or_false, false_or, exists_false, Evl.rLenS, rSum, wipe, tYes, exists_eq, exists_eq', rIxL, rIxT, rIxS, exists_and_right, gt_iff_lt, not_true_eq_false, not_false_eq_true, Bool.not_true, Bool.not_false, decide_eq_true_eq, Nat.reduceSub, Nat.reduceAdd, List.append_assoc, tChain, tDIn, tDNotIn, sDDel, tAug, ipI, tMeth, tFld]
    refine ⟨TC, dxa, _, k04 _ _ not0 hoa, C.cl, C.n2, _, rfl, TC, dxb, _, k04 _ _ not0 hob, C.cl, C.n2, _, rfl, two, fun st nst => ⟨by rw [sizeLine_eq]; decide, fun p np => ?_⟩⟩
    have s0m : s0 < m1 := by have := bTa.2.2.2.2.2.2.1; omega
    have t0n : t0 < n := by have := bTb.2.2.2.2.2.2.1; omega
    have m100 := bTa.2.2.2.2.1
    have n100 := bTb.2.2.2.2.1
    have cA : ∀ z ∈ zs, ∀ s, s < m1 → (0 ≤ (c1 z s).2 ∧ (c1 z s).2 < m1) := fun z hz s hs => by
      have := cTa z (by rw [ea]; exact hz) s hs
      rw [ca z hz s hs] at this
      exact this.2.2
    have cB : ∀ z ∈ zs, ∀ s, s < n → (0 ≤ (c' z s).2 ∧ (c' z s).2 < n) := fun z hz s hs => by
      have := cTb z (by rw [eb]; exact (zperm z).mp hz) s hs
      rw [cb z ((zperm z).mp hz) s hs] at this
      exact this.2.2
    have hN1 : Nx zs m1 c1 := fun z hz s hs => by have := cA z hz s hs; unfold nx; omega
    have hN' : Nx zs n c' := fun z hz s hs => by have := cB z hz s hs; unfold nx; omega
    have mn : m1 * n ≤ 10000 := Nat.mul_le_mul m100 n100
    have hN := pair_Nx hN1 hN'
    have fm := pair_lt (n := n) s0m t0n
    have hS : ∀ S, Alk zs c1 c' m1 n s0 t0 S → ∀ i, ∀ x ∈ fndC zs (pairC c1 c' n) (s0 * n + t0) i, AnsEq zs c1 c' n x := fun S hA i x hx => by
      have := fndC_inv (I := fun x => S (x / n) (x % n)) (zs := zs) (c := pairC c1 c' n) (f0 := s0 * n + t0) (by rw [pair_div t0n, pair_mod t0n]; exact hA.zero) (fun x hx z hz => by
        obtain ⟨a, b, r⟩ := hA.step _ _ hx
        have nx2 := hN' z hz _ b
        show S (nx (pairC c1 c' n) z x / n) (nx (pairC c1 c' n) z x % n)
        rw [pair_nx, pair_div nx2, pair_mod nx2]
        exact (r z hz).2) i x hx
      exact fun z hz => ((hA.step _ _ this).2.2 z hz).1
    have hAll : (∀ x ∈ fndC zs (pairC c1 c' n) (s0 * n + t0) (m1 * n), AnsEq zs c1 c' n x) → Alike zs c1 c' m1 n s0 t0 := fun h => by
      refine ⟨fun s t => t < n ∧ s * n + t ∈ fndC zs (pairC c1 c' n) (s0 * n + t0) (m1 * n), ⟨t0n, List.mem_of_getElem? (fndC_head _)⟩, fun s t ⟨tn, hx⟩ => ?_⟩
      have hlt := (fndC_ok hN fm _).2 _ hx
      have hin := pair_in hlt
      rw [pair_div tn, pair_mod tn] at hin
      refine ⟨hin.1, hin.2, fun z hz => ?_⟩
      have a := h _ hx z hz
      rw [pair_div tn, pair_mod tn] at a
      have nx2 := hN' z hz t hin.2
      have cl := fndC_full hN fm _ hx z hz
      rw [pair_nx, pair_div tn, pair_mod tn] at cl
      exact ⟨a, nx2, cl⟩
    have kst := (Kp.new nst : Kp [] H4 (upd H4 st (.tup [.int (s0 : Nat), .int (t0 : Nat)])))
    have kp := kst.trans (Kp.new np (o := .lst [.ref st]))
    have hst : (upd (upd H4 st (.tup [.int (s0 : Nat), .int (t0 : Nat)])) p (.lst [.ref st])) st = some (.tup [.int ((s0 * n + t0) / n : Nat), .int ((s0 * n + t0) % n : Nat)]) := by rw [pair_div t0n, pair_mod t0n]; exact (Kp.new np : Kp [] _ _) _ _ not0 upd_same
    have hp5 : (upd (upd H4 st (.tup [.int (s0 : Nat), .int (t0 : Nat)])) p (.lst [.ref st])) p = some (.lst [.ref st]) := upd_same
    have np0 : H p = none := noneB (k04.trans kst) np
    have k05 := k04.trans kp
    generalize upd (upd H4 st (.tup [.int (s0 : Nat), .int (t0 : Nat)])) p (.lst [.ref st]) = H5 at hst hp5 k05
    generalize hf0 : s0 * n + t0 = f0 at *
    generalize hm : m1 * n = m at *
    generalize hc : pairC c1 c' n = c at *
    try simp (maxSteps := 1000000) only [tSeq, tIfS, tTest, tOp, tUn, tCB, tCons, tNil, tVar, tC, rI0, rI, rU, rEq, rNe, tRet, tRetN, tAsg, gName, gSub, tBM, tBM0, tNext, tB, tNot, tAnd, tOr, tIf, tCall, tDrop, tBreak, tCont, L2.start, tDGet, sDPut, tTup, tLst, tDNewK, tRevL, rCat, rAppend, rPop, rSetL, tAndV, tOrV, tNotV, tSl, tPart, tNoPart, tM1, gTup, gCons, gNil, cxK, cxnK, List.map_cons, List.map_nil, List.length_cons, List.length_nil, List.replicate, List.cons_append, List.nil_append, List.append_nil, List.set_cons_zero, List.set_cons_succ, List.getElem?_cons_zero, List.getElem?_cons_succ, Option.some.injEq, V.ref.injEq, V.int.injEq, V.str.injEq, V.bl.injEq, V.ty.injEq, exists_eq_left', exists_eq_left, exists_and_left, List.cons.injEq, and_true, true_and, sc_ii, sc_ss, sc_bb, sc_ni, sc_in, sc_is, sc_si, sc_nn, decide_true, decide_false, reduceCtorEq, Bool.false_eq_true, if_true, if_false, ite_true, ite_false, exists_const, eq_self, false_and, and_false, or_false, false_or, exists_false, Evl.rLenS, rSum, wipe, tYes, exists_eq, exists_eq', rIxL, rIxT, rIxS, exists_and_right, gt_iff_lt, not_true_eq_false, not_false_eq_true, Bool.not_true, Bool.not_false, decide_eq_true_eq, Nat.reduceSub, Nat.reduceAdd, List.append_assoc, tChain, tDIn, tDNotIn, sDDel, tAug, ipI, tDispN]
    intro sd nsd
    have ksd := (Kp.new nsd : Kp [] H5 (upd H5 sd (.dK [])))
    have psd : p ≠ sd := fun z => by rw [z, nsd] at hp5; cases hp5
    have nsd0 : H sd = none := noneB k05 nsd
    refine ⟨_, sq_l (ksd _ _ not0 hp5), .ref st, rfl, two, fun vt nvt => ?_⟩
    have kvt := (Kp.new nvt : Kp [] (upd H5 sd (.dK [])) (upd (upd H5 sd (.dK [])) vt (.tup [.non, .str ""])))
    have hsd6 := kvt _ _ not0 (upd_same (H := H5) (a := sd) (o := .dK []))
    have hst6 := (ksd.trans kvt) _ _ not0 hst
    have hp6 := (ksd.trans kvt) _ _ not0 hp5
    have k06 := (k05.trans ksd).trans kvt
    refine ⟨hsd6, keyG n f0, ⟨st, rfl, .tup hst6 (.cons (.int _) (.cons (.int _) .nil)), by unfold keyG; simp only [NestedKey.depthAll, NestedKey.depth]; omega⟩, fun ob' hob' => ?_⟩
    have k07 := k06.wr (o := ob') nsd0
    have hb0 : PwB P w n H p sd (fndC zs c f0 0) (bfsR zs c f0 0) (upd (upd (upd H5 sd (.dK [])) vt (.tup [.non, .str ""])) sd ob') := by
      refine ⟨⟨⟨[.ref st], by rw [upd_ne psd]; exact hp6, rfl, fun i s e => ?_⟩, rfl⟩, ⟨_, hob', rfl, fun i x e => ?_⟩, k07⟩
      case refine_2 =>
        cases i with
        | zero =>
          cases e
          exact ⟨vt, rfl, .inl ⟨rfl, rfl, by rw [upd_ne (fun zz => by rw [zz, upd_same] at hsd6; cases hsd6), upd_same]⟩⟩
        | succ i => cases e
      cases i with
      | zero =>
        cases e
        exact ⟨st, rfl, by rw [upd_ne (fun zz => by rw [zz, hsd6] at hst6; cases hst6)]; exact hst6⟩
      | succ i => cases e
    generalize upd (upd (upd H5 sd (.dK [])) vt (.tup [.non, .str ""])) sd ob' = H7 at hb0
    refine ⟨WMe P w zs c1 c' c n f0 m oa ob p sd H, ⟨_, 0, none, none, none, none, none, none, rfl, hb0, fun i' x h => absurd h (by omega), Nat.zero_le _, rfl⟩, ?_⟩
    rintro n' σ H2 ⟨i, c5, c6, c7, c8, c9, c10, rfl, hB, hans, il, rfl⟩
    obtain ⟨⟨⟨ps, hp, hps⟩, eGi⟩, _, k2'⟩ := id hB
    have fo := fndC_ok hN fm i
    have flen := fo.len
    try simp (maxSteps := 1000000) only [tSeq, tIfS, tTest, tOp, tUn, tCB, tCons, tNil, tVar, tC, rI0, rI, rU, rEq, rNe, tRet, tRetN, tAsg, gName, gSub, tBM, tBM0, tNext, tB, tNot, tAnd, tOr, tIf, tCall, tDrop, tBreak, tCont, L2.start, tDGet, sDPut, tTup, tLst, tDNewK, tRevL, rCat, rAppend, rPop, rSetL, tAndV, tOrV, tNotV, tSl, tPart, tNoPart, tM1, gTup, gCons, gNil, cxK, cxnK, List.map_cons, List.map_nil, List.length_cons, List.length_nil, List.replicate, List.cons_append, List.nil_append, List.append_nil, List.set_cons_zero, List.set_cons_succ, List.getElem?_cons_zero, List.getElem?_cons_succ, Option.some.injEq, V.ref.injEq, V.int.injEq, V.str.injEq, V.bl.injEq, V.ty.injEq, exists_eq_left', exists_eq_left, exists_and_left, List.cons.injEq, and_true, true_and, sc_ii, sc_ss, sc_bb, sc_ni, sc_in, sc_is, sc_si, sc_nn, decide_true, decide_false, reduceCtorEq, Bool.false_eq_true, if_true, if_false, ite_true, ite_false, exists_const, eq_self, false_and, and_false, or_false, false_or, exists_false, Evl.rLenS, rSum, wipe, tYes, exists_eq, exists_eq', rIxL, rIxT, rIxS, exists_and_right, gt_iff_lt, not_true_eq_false, not_false_eq_true, Bool.not_true, Bool.not_false, decide_eq_true_eq, Nat.reduceSub, Nat.reduceAdd, List.append_assoc, tChain, tDIn, tDNotIn, sDDel, tAug, ipI]
    refine ⟨_, .inl (sq_l hp), ?_⟩
    rw [hps.1]
    by_cases e : i < (fndC zs c f0 i).length
    · rw [if_pos (show (i : Int) < ((fndC zs c f0 i).length : Nat) by omega)]
      refine ⟨fun σ' H' => ∃ m', m' < m + 1 - i ∧ WMe P w zs c1 c' c n f0 m oa ob p sd H m' σ' H', fun _ _ h => h, ?_⟩
      have es : (fndC zs c f0 i)[i]? = some (fndC zs c f0 i)[i] := List.getElem?_eq_getElem e
      generalize (fndC zs c f0 i)[i] = s' at es
      have sin := List.mem_of_getElem? es
      obtain ⟨ρ, er⟩ : ∃ ρ, (bfsR zs c f0 i)[i]? = some (s', ρ) := by
        rw [← eGi, List.getElem?_map] at es
        cases e : (bfsR zs c f0 i)[i]? with
        | none => rw [e] at es; cases es
        | some q => rw [e] at es; cases es; exact ⟨_, rfl⟩
      have sm : s' < m := fo.2 s' sin
      have sm2 : s' / n < m1 ∧ s' % n < n := pair_in (by rw [hm]; exact sm)
      obtain ⟨qs, eqs, hqs⟩ := hps.2 i s' es
      refine ⟨_, sq_l hp, .ref qs, atI_nat eqs, ?_⟩
      refine forLD (fun nn H' => H' nn = some (.lst (zs.map V.str)) ∧ Kp [] H2 H' ∧ H2 nn = none) (fun R hR => ?_) fun nn H3 ⟨hnn, k23, nnn⟩ => ?_
      · try simp (maxSteps := 1000000) only [tSeq, tIfS, tTest, tOp, tUn, tCB, tCons, tNil, tVar, tC, rI0, rI, rU, rEq, rNe, tRet, tRetN, tAsg, gName, gSub, tBM, tBM0, tNext, tB, tNot, tAnd, tOr, tIf, tCall, tDrop, tBreak, tCont, L2.start, tDGet, sDPut, tTup, tLst, tDNewK, tRevL, rCat, rAppend, rPop, rSetL, tAndV, tOrV, tNotV, tSl, tPart, tNoPart, tM1, gTup, gCons, gNil, cxK, cxnK, List.map_cons, List.map_nil, List.length_cons, List.length_nil, List.replicate, List.cons_append, List.nil_append, List.append_nil, List.set_cons_zero, List.set_cons_succ, List.getElem?_cons_zero, List.getElem?_cons_succ, Option.some.injEq, V.ref.injEq, V.int.injEq, V.str.injEq, V.bl.injEq, V.ty.injEq, exists_eq_left', exists_eq_left, exists_and_left, List.cons.injEq, and_true, true_and, sc_ii, sc_ss, sc_bb, sc_ni, sc_in, sc_is, sc_si, sc_nn, decide_true, decide_false, reduceCtorEq, Bool.false_eq_true, if_true, if_false, ite_true, ite_false, exists_const, eq_self, false_and, and_false, or_false, false_or, exists_false, Evl.rLenS, rSum, wipe, tYes, exists_eq, exists_eq', rIxL, rIxT, rIxS, exists_and_right, gt_iff_lt, not_true_eq_false, not_false_eq_true, Bool.not_true, Bool.not_false, decide_eq_true_eq, Nat.reduceSub, Nat.reduceAdd, List.append_assoc, tChain, tDIn, tDNotIn, sDDel, tAug, ipI, tMeth]
        exact ⟨dxa, _, k2' _ _ not0 hoa, rfl, oa, m1, (s0 : Nat), rsa, rfl, hTa.kp k2', fun l H' nl hl' k => hR l H' ⟨by rw [← ea']; exact hl', k, nl⟩⟩
      have nnp : nn ≠ p := fun z => by rw [z, hp] at nnn; cases nnn
      refine ⟨nn, rfl, ⟨_, sq_l hnn⟩, for_list (K := K) (a := nn) (xs := zs.map V.str) (fun j σ H' => (∃ c6 c7 c8 c9 c10 : Option V, σ = [some (.ref oa), some (.ref ob), some (.ref p), some (.ref sd), some (.int (i : Nat)), some (.ref qs), c6, c7, c8, c9, c10]) ∧ PwB P w n H p sd (visitC c s' (zs.take j) (fndC zs c f0 i)) ((zs.take j).foldl (noteR c s' ρ) (bfsR zs c f0 i)) H' ∧ H' nn = some (.lst (zs.map V.str)) ∧ H' qs = some (.tup [.int (s' / n : Nat), .int (s' % n : Nat)]) ∧ ∀ z ∈ zs.take j, (c1 z (s' / n)).1 = (c' z (s' % n)).1) ⟨⟨_, _, _, _, _, rfl⟩, hB.kp k23, hnn, k23 _ _ not0 hqs, fun z hz => nomatch hz⟩ (fun j σ H' _ h => sq_l h.2.2.1) ?_ ?_⟩
      · rintro j x σ H8 hx ⟨⟨c6, c7, c8, c9, c10, rfl⟩, hB8, hnn8, hqs8, han8⟩
        obtain ⟨z, ez, rfl⟩ : ∃ z, zs[j]? = some z ∧ V.str z = x := by
          rw [List.getElem?_map] at hx
          cases e : zs[j]? with
          | none => rw [e] at hx; cases hx
          | some z => rw [e] at hx; exact ⟨z, rfl, Option.some.inj hx⟩
        have hz : z ∈ zs := List.mem_of_getElem? ez
        have k08 := hB8.2.2
        have hasA : hasD rsa (.str z) = true := by
          show (nameS z && decide (z ∈ rsa.map (·.1))) = true
          rw [nms z hz, ea', decide_eq_true hz]; rfl
        have hasB : hasD rsb (.str z) = true := by
          show (nameS z && decide (z ∈ rsb.map (·.1))) = true
          rw [nms z hz, eb', decide_eq_true ((zperm z).mp hz)]; rfl
        have szz : szD (.str z) = true := decide_eq_true (name8 (nms z hz))
        have fv : FOk m (visitC c s' (zs.take j) (fndC zs c f0 i)) := visitC_ok (fun y hy => hN y (List.mem_of_mem_take hy) s' sm) fo
        try simp (maxSteps := 1000000) only [tSeq, tIfS, tTest, tOp, tUn, tCB, tCons, tNil, tVar, tC, rI0, rI, rU, rEq, rNe, tRet, tRetN, tAsg, gName, gSub, tBM, tBM0, tNext, tB, tNot, tAnd, tOr, tIf, tCall, tDrop, tBreak, tCont, L2.start, tDGet, sDPut, tTup, tLst, tDNewK, tRevL, rCat, rAppend, rPop, rSetL, tAndV, tOrV, tNotV, tSl, tPart, tNoPart, tM1, gTup, gCons, gNil, cxK, cxnK, List.map_cons, List.map_nil, List.length_cons, List.length_nil, List.replicate, List.cons_append, List.nil_append, List.append_nil, List.set_cons_zero, List.set_cons_succ, List.getElem?_cons_zero, List.getElem?_cons_succ, Option.some.injEq, V.ref.injEq, V.int.injEq, V.str.injEq, V.bl.injEq, V.ty.injEq, exists_eq_left', exists_eq_left, exists_and_left, List.cons.injEq, and_true, true_and, sc_ii, sc_ss, sc_bb, sc_ni, sc_in, sc_is, sc_si, sc_nn, decide_true, decide_false, reduceCtorEq, Bool.false_eq_true, if_true, if_false, ite_true, ite_false, exists_const, eq_self, false_and, and_false, or_false, false_or, exists_false, Evl.rLenS, rSum, wipe, tYes, exists_eq, exists_eq', rIxL, rIxT, rIxS, exists_and_right, gt_iff_lt, not_true_eq_false, not_false_eq_true, Bool.not_true, Bool.not_false, decide_eq_true_eq, Nat.reduceSub, Nat.reduceAdd, List.append_assoc, tChain, tDIn, tDNotIn, sDDel, tAug, ipI, tCallO, tNNotIn, sNPut]
        refine ⟨_, sq_t hqs8, .int (s' / n : Nat), rfl, .inr ⟨dxa, _, k08 _ _ not0 hoa⟩, oa, .str z, .int (s' / n : Nat), .str z, .int (s' / n : Nat), m1, (s0 : Nat), rsa, rfl, hTa.kp k08, .str z, szz, .int _, fun z' s2 ez' es' hh i0 i1 pa H9 hpa k9 => ?_, fun hh => by (rw [hasA] at hh; cases hh), fun hh hb => ?_⟩
        case refine_2 =>
          have : (decide (0 ≤ ((s' / n : Nat) : Int)) && decide (((s' / n : Nat) : Int) < (m1 : Nat))) = false := hb
          rw [decide_eq_true (Int.natCast_nonneg (s' / n)), decide_eq_true (Int.ofNat_lt.mpr sm2.1)] at this
          cases this
        cases ez'
        cases es'
        rw [ca z hz _ sm2.1] at hpa
        have k09 := k08.trans k9
        try simp (maxSteps := 1000000) only [tSeq, tIfS, tTest, tOp, tUn, tCB, tCons, tNil, tVar, tC, rI0, rI, rU, rEq, rNe, tRet, tRetN, tAsg, gName, gSub, tBM, tBM0, tNext, tB, tNot, tAnd, tOr, tIf, tCall, tDrop, tBreak, tCont, L2.start, tDGet, sDPut, tTup, tLst, tDNewK, tRevL, rCat, rAppend, rPop, rSetL, tAndV, tOrV, tNotV, tSl, tPart, tNoPart, tM1, gTup, gCons, gNil, cxK, cxnK, List.map_cons, List.map_nil, List.length_cons, List.length_nil, List.replicate, List.cons_append, List.nil_append, List.append_nil, List.set_cons_zero, List.set_cons_succ, List.getElem?_cons_zero, List.getElem?_cons_succ, Option.some.injEq, V.ref.injEq, V.int.injEq, V.str.injEq, V.bl.injEq, V.ty.injEq, exists_eq_left', exists_eq_left, exists_and_left, List.cons.injEq, and_true, true_and, sc_ii, sc_ss, sc_bb, sc_ni, sc_in, sc_is, sc_si, sc_nn, decide_true, decide_false, reduceCtorEq, Bool.false_eq_true, if_true, if_false, ite_true, ite_false, exists_const, eq_self, false_and, and_false, or_false, false_or, exists_false, Evl.rLenS, rSum, wipe, tYes, exists_eq, exists_eq', rIxL, rIxT, rIxS, exists_and_right, gt_iff_lt, not_true_eq_false, not_false_eq_true, Bool.not_true, Bool.not_false, decide_eq_true_eq, Nat.reduceSub, Nat.reduceAdd, List.append_assoc, tChain, tDIn, tDNotIn, sDDel, tAug, ipI, tCallO, tNNotIn, sNPut]
        refine ⟨_, sq_t hpa, rfl, _, _, rfl, _, _, rfl, rfl, ?_⟩
        try simp (maxSteps := 1000000) only [tSeq, tIfS, tTest, tOp, tUn, tCB, tCons, tNil, tVar, tC, rI0, rI, rU, rEq, rNe, tRet, tRetN, tAsg, gName, gSub, tBM, tBM0, tNext, tB, tNot, tAnd, tOr, tIf, tCall, tDrop, tBreak, tCont, L2.start, tDGet, sDPut, tTup, tLst, tDNewK, tRevL, rCat, rAppend, rPop, rSetL, tAndV, tOrV, tNotV, tSl, tPart, tNoPart, tM1, gTup, gCons, gNil, cxK, cxnK, List.map_cons, List.map_nil, List.length_cons, List.length_nil, List.replicate, List.cons_append, List.nil_append, List.append_nil, List.set_cons_zero, List.set_cons_succ, List.getElem?_cons_zero, List.getElem?_cons_succ, Option.some.injEq, V.ref.injEq, V.int.injEq, V.str.injEq, V.bl.injEq, V.ty.injEq, exists_eq_left', exists_eq_left, exists_and_left, List.cons.injEq, and_true, true_and, sc_ii, sc_ss, sc_bb, sc_ni, sc_in, sc_is, sc_si, sc_nn, decide_true, decide_false, reduceCtorEq, Bool.false_eq_true, if_true, if_false, ite_true, ite_false, exists_const, eq_self, false_and, and_false, or_false, false_or, exists_false, Evl.rLenS, rSum, wipe, tYes, exists_eq, exists_eq', rIxL, rIxT, rIxS, exists_and_right, gt_iff_lt, not_true_eq_false, not_false_eq_true, Bool.not_true, Bool.not_false, decide_eq_true_eq, Nat.reduceSub, Nat.reduceAdd, List.append_assoc, tChain, tDIn, tDNotIn, sDDel, tAug, ipI, tCallO, tNNotIn, sNPut]
        refine ⟨_, sq_t (k9 _ _ not0 hqs8), .int (s' % n : Nat), rfl, .inr ⟨dxb, _, k09 _ _ not0 hob⟩, ob, .str z, .int (s' % n : Nat), .str z, .int (s' % n : Nat), n, (t0 : Nat), rsb, rfl, hTb.kp k09, .str z, szz, .int _, fun z' s2 ez' es' hh i0' i1' pb HA hpb kA => ?_, fun hh => by (rw [hasB] at hh; cases hh), fun hh hb => ?_⟩
        case refine_2 =>
          have : (decide (0 ≤ ((s' % n : Nat) : Int)) && decide (((s' % n : Nat) : Int) < (n : Nat))) = false := hb
          rw [decide_eq_true (Int.natCast_nonneg (s' % n)), decide_eq_true (Int.ofNat_lt.mpr sm2.2)] at this
          cases this
        cases ez'
        cases es'
        rw [cb z ((zperm z).mp hz) _ sm2.2] at hpb
        try simp (maxSteps := 1000000) only [tSeq, tIfS, tTest, tOp, tUn, tCB, tCons, tNil, tVar, tC, rI0, rI, rU, rEq, rNe, tRet, tRetN, tAsg, gName, gSub, tBM, tBM0, tNext, tB, tNot, tAnd, tOr, tIf, tCall, tDrop, tBreak, tCont, L2.start, tDGet, sDPut, tTup, tLst, tDNewK, tRevL, rCat, rAppend, rPop, rSetL, tAndV, tOrV, tNotV, tSl, tPart, tNoPart, tM1, gTup, gCons, gNil, cxK, cxnK, List.map_cons, List.map_nil, List.length_cons, List.length_nil, List.replicate, List.cons_append, List.nil_append, List.append_nil, List.set_cons_zero, List.set_cons_succ, List.getElem?_cons_zero, List.getElem?_cons_succ, Option.some.injEq, V.ref.injEq, V.int.injEq, V.str.injEq, V.bl.injEq, V.ty.injEq, exists_eq_left', exists_eq_left, exists_and_left, List.cons.injEq, and_true, true_and, sc_ii, sc_ss, sc_bb, sc_ni, sc_in, sc_is, sc_si, sc_nn, decide_true, decide_false, reduceCtorEq, Bool.false_eq_true, if_true, if_false, ite_true, ite_false, exists_const, eq_self, false_and, and_false, or_false, false_or, exists_false, Evl.rLenS, rSum, wipe, tYes, exists_eq, exists_eq', rIxL, rIxT, rIxS, exists_and_right, gt_iff_lt, not_true_eq_false, not_false_eq_true, Bool.not_true, Bool.not_false, decide_eq_true_eq, Nat.reduceSub, Nat.reduceAdd, List.append_assoc, tChain, tDIn, tDNotIn, sDDel, tAug, ipI, tCallO, tNNotIn, sNPut]
        refine ⟨_, sq_t hpb, rfl, _, _, rfl, _, _, rfl, rfl, ?_⟩
        try simp (maxSteps := 1000000) only [tSeq, tIfS, tTest, tOp, tUn, tCB, tCons, tNil, tVar, tC, rI0, rI, rU, rEq, rNe, tRet, tRetN, tAsg, gName, gSub, tBM, tBM0, tNext, tB, tNot, tAnd, tOr, tIf, tCall, tDrop, tBreak, tCont, L2.start, tDGet, sDPut, tTup, tLst, tDNewK, tRevL, rCat, rAppend, rPop, rSetL, tAndV, tOrV, tNotV, tSl, tPart, tNoPart, tM1, gTup, gCons, gNil, cxK, cxnK, List.map_cons, List.map_nil, List.length_cons, List.length_nil, List.replicate, List.cons_append, List.nil_append, List.append_nil, List.set_cons_zero, List.set_cons_succ, List.getElem?_cons_zero, List.getElem?_cons_succ, Option.some.injEq, V.ref.injEq, V.int.injEq, V.str.injEq, V.bl.injEq, V.ty.injEq, exists_eq_left', exists_eq_left, exists_and_left, List.cons.injEq, and_true, true_and, sc_ii, sc_ss, sc_bb, sc_ni, sc_in, sc_is, sc_si, sc_nn, decide_true, decide_false, reduceCtorEq, Bool.false_eq_true, if_true, if_false, ite_true, ite_false, exists_const, eq_self, false_and, and_false, or_false, false_or, exists_false, Evl.rLenS, rSum, wipe, tYes, exists_eq, exists_eq', rIxL, rIxT, rIxS, exists_and_right, gt_iff_lt, not_true_eq_false, not_false_eq_true, Bool.not_true, Bool.not_false, decide_eq_true_eq, Nat.reduceSub, Nat.reduceAdd, List.append_assoc, tChain, tDIn, tDNotIn, sDDel, tAug, ipI, tCallO, tNNotIn, sNPut]
        by_cases ans : (c1 z (s' / n)).1 = (c' z (s' % n)).1
        case neg =>
          rw [decide_eq_false ans, if_pos (by rfl)]
          have kA2 := k9.trans kA
          obtain ⟨⟨⟨psA, hpA, hpsA⟩, eGA⟩, hbkA, k0A⟩ := hB8.kp kA2
          have lGA := congrArg List.length eGA
          rw [List.length_map] at lGA
          refine ⟨qs, sd, n, i, (s', ρ), _, rfl, hbkA, by rw [eGA]; exact fv.1, by have := fv.len; omega, visitR_get er, kA2 _ _ not0 hqs8, fun rl HR nrl hrl rlen kR => ?_⟩
          try simp (maxSteps := 1000000) only [tSeq, tIfS, tTest, tOp, tUn, tCB, tCons, tNil, tVar, tC, rI0, rI, rU, rEq, rNe, tRet, tRetN, tAsg, gName, gSub, tBM, tBM0, tNext, tB, tNot, tAnd, tOr, tIf, tCall, tDrop, tBreak, tCont, L2.start, tDGet, sDPut, tTup, tLst, tDNewK, tRevL, rCat, rAppend, rPop, rSetL, tAndV, tOrV, tNotV, tSl, tPart, tNoPart, tM1, gTup, gCons, gNil, cxK, cxnK, List.map_cons, List.map_nil, List.length_cons, List.length_nil, List.replicate, List.cons_append, List.nil_append, List.append_nil, List.set_cons_zero, List.set_cons_succ, List.getElem?_cons_zero, List.getElem?_cons_succ, Option.some.injEq, V.ref.injEq, V.int.injEq, V.str.injEq, V.bl.injEq, V.ty.injEq, exists_eq_left', exists_eq_left, exists_and_left, List.cons.injEq, and_true, true_and, sc_ii, sc_ss, sc_bb, sc_ni, sc_in, sc_is, sc_si, sc_nn, decide_true, decide_false, reduceCtorEq, Bool.false_eq_true, if_true, if_false, ite_true, ite_false, exists_const, eq_self, false_and, and_false, or_false, false_or, exists_false, Evl.rLenS, rSum, wipe, tYes, exists_eq, exists_eq', rIxL, rIxT, rIxS, exists_and_right, gt_iff_lt, not_true_eq_false, not_false_eq_true, Bool.not_true, Bool.not_false, decide_eq_true_eq, Nat.reduceSub, Nat.reduceAdd, List.append_assoc, tChain, tDIn, tDNotIn, sDDel, tAug, ipI]
          refine ⟨by rw [sizeLine_eq]; decide, fun q1 nq1 => ?_⟩
          have kq1 := (Kp.new nq1 : Kp [] HR (upd HR q1 (.lst [.str z])))
          refine ⟨_, kq1 _ _ not0 hrl, _, upd_same, by rw [sizeLine_eq, List.length_map]; show ρ.length + 1 ≤ _; have : ρ.length ≤ 10000 := rlen; omega, fun q2 nq2 => ?_⟩
          have kq2 := kq1.trans (Kp.new nq2 (o := .lst (ρ.map V.str ++ [.str z])))
          refine ⟨two, fun q3 nq3 => ?_⟩
          have k3q := (Kp.new nq3 (S := []) (o := .tup [.ref p, .ref q2]))
          have kall := ((k0A.trans kR).trans kq2).trans k3q
          exact qB hperm (fun ⟨S, hA⟩ => ans (hS S hA i s' sin z hz)) q3 p q2 (ρ ++ [z]) _ (noneB ((k0A.trans kR).trans kq2) nq3) upd_same (noneB ((k0A.trans kR).trans kq1) nq2) (by
            rw [List.map_append]
            exact k3q _ _ not0 upd_same) ⟨i, s', j, ρ, z, rfl, by rw [hc]; exact er, by rw [hc]; exact hans, ez, han8, ans⟩ kall
        rw [decide_eq_true ans, if_neg (by decide)]
        have han9 : ∀ y ∈ zs.take (j + 1), (c1 y (s' / n)).1 = (c' y (s' % n)).1 := fun y hy => by
          rw [take_snoc ez] at hy
          rcases List.mem_append.mp hy with hy | hy
          · exact han8 y hy
          · rw [List.mem_singleton.mp hy]; exact ans
        have hg1 := cA z hz _ sm2.1
        have hg2 := cB z hz _ sm2.2
        have nx2 := hN' z hz _ sm2.2
        have enx : nx c z s' = nx c1 z (s' / n) * n + nx c' z (s' % n) := by rw [← hc]; exact pair_nx
        have y1 : nx c z s' / n = nx c1 z (s' / n) := by rw [enx]; exact pair_div nx2
        have y2 : nx c z s' % n = nx c' z (s' % n) := by rw [enx]; exact pair_mod nx2
        have evs := visitC_snoc (c := c) (s := s') (f := fndC zs c f0 i) ez
        have eg1 : (c1 z (s' / n)).2 = ((nx c z s' / n : Nat) : Int) := by rw [y1]; unfold nx; exact (Int.toNat_of_nonneg hg1.1).symm
        have eg2 : (c' z (s' % n)).2 = ((nx c z s' % n : Nat) : Int) := by rw [y2]; unfold nx; exact (Int.toNat_of_nonneg hg2.1).symm
        rw [eg1, eg2]
        generalize hy : nx c z s' = y at *
        refine ⟨two, fun tp1 ntp1 => ?_⟩
        have k8A := k9.trans kA
        have kt := k8A.trans (Kp.new ntp1 (o := .tup [.int (y / n : Nat), .int (y % n : Nat)]))
        have htp : (upd HA tp1 (.tup [.int (y / n : Nat), .int (y % n : Nat)])) tp1 = some (.tup [.int (y / n : Nat), .int (y % n : Nat)]) := upd_same
        generalize upd HA tp1 (.tup [.int (y / n : Nat), .int (y % n : Nat)]) = HB at kt htp ⊢
        obtain ⟨⟨⟨ps4, hp4, hps4⟩, eG4⟩, ⟨kv4, hd4, hk4, hen4⟩, k4⟩ := hB8.kp kt
        rw [eG4] at hk4
        have nk : NKey HB (.ref tp1) (keyG n y) := ⟨tp1, rfl, .tup htp (.cons (.int _) (.cons (.int _) .nil)), by unfold keyG; simp only [NestedKey.depthAll, NestedKey.depth]; omega⟩
        have hnnB := kt _ _ not0 hnn8
        have hqsB := kt _ _ not0 hqs8
        refine ⟨kv4, hd4, keyG n y, nk, ?_⟩
        rw [evs, visitR_snoc ez, noteR_def]
        unfold noteC
        rw [hy, eG4]
        by_cases hm' : y ∈ visitC c s' (zs.take j) (fndC zs c f0 i)
        · rw [valN_in (by rw [hk4]; exact List.mem_map_of_mem hm'), if_neg (by decide), if_pos hm']
          rw [if_pos hm']
          exact ⟨⟨⟨⟨ps4, hp4, hps4⟩, eG4⟩, ⟨kv4, hd4, by rw [eG4]; exact hk4, hen4⟩, k4⟩, hnnB, hqsB, han9⟩
        · have vn : valN kv4 (keyG n y) = none := valN_not (by
            rw [hk4]
            intro zz
            obtain ⟨y', hy', e⟩ := List.mem_map.mp zz
            exact hm' (by rw [← keyG_inj e]; exact hy'))
          rw [vn, if_pos (by decide), if_neg hm', if_neg hm']
          have kl : kv4.length ≤ m := by
            have := congrArg List.length hk4
            rw [List.length_map, List.length_map] at this
            have := fv.len
            omega
          refine ⟨two, fun tp2 ntp2 => ⟨two, fun tp3 ntp3 => ?_⟩⟩
          have kC := (Kp.new (S := []) ntp2 (o := .tup [.ref qs, .str z])).trans (Kp.new ntp3 (o := .tup [.int (y / n : Nat), .int (y % n : Nat)]))
          have htp2 : (upd (upd HB tp2 (.tup [.ref qs, .str z])) tp3 (.tup [.int (y / n : Nat), .int (y % n : Nat)])) tp2 = some (.tup [.ref qs, .str z]) := (Kp.new (S := []) ntp3) _ _ not0 upd_same
          have htp3 : (upd (upd HB tp2 (.tup [.ref qs, .str z])) tp3 (.tup [.int (y / n : Nat), .int (y % n : Nat)])) tp3 = some (.tup [.int (y / n : Nat), .int (y % n : Nat)]) := upd_same
          generalize upd (upd HB tp2 (.tup [.ref qs, .str z])) tp3 (.tup [.int (y / n : Nat), .int (y % n : Nat)]) = HC at kC htp3 htp2 ⊢
          have hdC := dn_kp hd4 kC
          have hpC := kC _ _ not0 hp4
          have nk3 : NKey HC (.ref tp3) (keyG n y) := ⟨tp3, rfl, .tup htp3 (.cons (.int _) (.cons (.int _) .nil)), by unfold keyG; simp only [NestedKey.depthAll, NestedKey.depth]; omega⟩
          refine ⟨kv4, hdC, keyG n y, nk3, smallL (by omega), fun ob hob => ?_⟩
          have hpD : (upd HC sd ob) p = some (.lst ps4) := by rw [upd_ne psd]; exact hpC
          have nsdL : ∀ b us, HC b = some (.lst us) → b ≠ sd := fun b us e zz => by
            subst zz
            rcases hdC with ⟨a, _⟩ | ⟨_, a, _⟩ <;> (rw [e] at a; cases a)
          have tsd : ∀ b us, HC b = some (.tup us) → (upd HC sd ob) b = some (.tup us) := fun b us e => by
            rw [upd_ne (fun zz => by
              subst zz
              rcases hdC with ⟨a, _⟩ | ⟨_, a, _⟩ <;> (rw [e] at a; cases a))]
            exact e
          refine ⟨.inl ⟨rfl, _, sq_l hpD⟩, two, fun tp4 ntp4 => ?_⟩
          have kD := (Kp.new ntp4 : Kp [] (upd HC sd ob) (upd (upd HC sd ob) tp4 (.tup [.int (y / n : Nat), .int (y % n : Nat)])))
          have htp4 : (upd (upd HC sd ob) tp4 (.tup [.int (y / n : Nat), .int (y % n : Nat)])) tp4 = some (.tup [.int (y / n : Nat), .int (y % n : Nat)]) := upd_same
          have hpE := kD _ _ not0 hpD
          have hobE := dn_kp hob kD
          have henE := back_ent (H' := upd (upd HC sd ob) tp4 (.tup [.int (y / n : Nat), .int (y % n : Nat)])) (fun b us e => kD _ _ not0 (tsd b us (kC _ _ not0 e))) hen4
          have htp2E := kD _ _ not0 (tsd _ _ htp2)
          have hnnE := kD _ _ not0 (show (upd HC sd ob) nn = some (.lst (zs.map V.str)) by rw [upd_ne (nsdL _ _ (kC _ _ not0 hnnB))]; exact kC _ _ not0 hnnB)
          have hqsE := kD _ _ not0 (tsd _ _ (kC _ _ not0 hqsB))
          have hpsE : PrsG (upd (upd HC sd ob) tp4 (.tup [.int (y / n : Nat), .int (y % n : Nat)])) n ps4 (visitC c s' (zs.take j) (fndC zs c f0 i)) := ((hps4.kp kC).tp tsd).kp kD
          have kE := (((k4.trans kC).wr (o := ob) nsd0).trans kD)
          generalize upd (upd HC sd ob) tp4 (.tup [.int (y / n : Nat), .int (y % n : Nat)]) = HE at htp4 hpE hobE hnnE hqsE hpsE kE henE htp2E ⊢
          have tE : ∀ b us, HE b = some (.tup us) → (upd HE p (.lst (ps4 ++ [.ref tp4]))) b = some (.tup us) := fun b us e => by
            rw [upd_ne (fun zz => by rw [zz, hpE] at e; cases e)]
            exact e
          have iv := visitC_get (c := c) (s := s') (zs := zs.take j) es
          have il2 : i < (visitC c s' (zs.take j) (fndC zs c f0 i)).length := (List.getElem?_eq_some_iff.mp iv).1
          have kvl : kv4.length = (visitC c s' (zs.take j) (fndC zs c f0 i)).length := by
            have := congrArg List.length hk4
            rwa [List.length_map, List.length_map] at this
          have put : putN kv4 (keyG n y) (.ref tp2) = kv4 ++ [(keyG n y, .ref tp2)] := by
            unfold putN
            rw [vn, if_neg (by decide)]
          rw [put] at hobE
          have lG4 := congrArg List.length eG4
          rw [List.length_map] at lG4
          refine ⟨ps4, hpE, smallL (by rw [hps4.1]; have := fv.len; omega), ⟨⟨⟨_, upd_same, (hpsE.snoc htp4).tp tE⟩, by rw [List.map_append, eG4]; rfl⟩, ⟨_, dn_wr hobE hpE (Ne.symm psd), ?_, fun i2 x2 e2 => ?_⟩, kE.wr np0⟩, by rw [upd_ne nnp]; exact hnnE, tE _ _ hqsE, han9⟩
          · rw [List.map_append, List.map_append, hk4, List.map_append, eG4]
            rfl
          · rcases Nat.lt_trichotomy i2 ((zs.take j).foldl (noteR c s' ρ) (bfsR zs c f0 i)).length with w2 | w2 | w2
            · rw [List.getElem?_append_left w2] at e2
              obtain ⟨t2, a2, b2⟩ := back_ent tE henE i2 x2 e2
              refine ⟨t2, by rw [List.getElem?_append_left (by omega)]; exact a2, ?_⟩
              rcases b2 with b2 | ⟨j3, y3, q3, z3, g1, g2, g3⟩
              · exact .inl b2
              · exact .inr ⟨j3, y3, q3, z3, g1, by rw [List.getElem?_append_left (by omega)]; exact g2, g3⟩
            · subst w2
              rw [List.getElem?_append_right (Nat.le_refl _), Nat.sub_self] at e2
              cases e2
              have ir := visitR_get (c := c) (s := s') (ρ := ρ) (zs := zs.take j) er
              exact ⟨tp2, by rw [lG4, ← kvl, List.getElem?_append_right (Nat.le_refl _), Nat.sub_self]; rfl, .inr ⟨i, (s', ρ), qs, z, by rw [lG4]; exact il2, by rw [List.getElem?_append_left (by rw [lG4]; exact il2)]; exact ir, rfl, tE _ _ htp2E, tE _ _ hqsE⟩⟩
            · rw [List.getElem?_append_right (by omega), List.getElem?_eq_none (by simp; omega)] at e2
              cases e2
      · rintro σ H8 ⟨⟨c6, c7, c8, c9, c10, rfl⟩, hB8, _, _, han8⟩
        rw [List.length_map, List.take_length] at han8
        rw [List.length_map, List.take_length, ← fndC_succ es, ← bfsR_succ er] at hB8
        try simp (maxSteps := 1000000) only [tSeq, tIfS, tTest, tOp, tUn, tCB, tCons, tNil, tVar, tC, rI0, rI, rU, rEq, rNe, tRet, tRetN, tAsg, gName, gSub, tBM, tBM0, tNext, tB, tNot, tAnd, tOr, tIf, tCall, tDrop, tBreak, tCont, L2.start, tDGet, sDPut, tTup, tLst, tDNewK, tRevL, rCat, rAppend, rPop, rSetL, tAndV, tOrV, tNotV, tSl, tPart, tNoPart, tM1, gTup, gCons, gNil, cxK, cxnK, List.map_cons, List.map_nil, List.length_cons, List.length_nil, List.replicate, List.cons_append, List.nil_append, List.append_nil, List.set_cons_zero, List.set_cons_succ, List.getElem?_cons_zero, List.getElem?_cons_succ, Option.some.injEq, V.ref.injEq, V.int.injEq, V.str.injEq, V.bl.injEq, V.ty.injEq, exists_eq_left', exists_eq_left, exists_and_left, List.cons.injEq, and_true, true_and, sc_ii, sc_ss, sc_bb, sc_ni, sc_in, sc_is, sc_si, sc_nn, decide_true, decide_false, reduceCtorEq, Bool.false_eq_true, if_true, if_false, ite_true, ite_false, exists_const, eq_self, false_and, and_false, or_false, false_or, exists_false, Evl.rLenS, rSum, wipe, tYes, exists_eq, exists_eq', rIxL, rIxT, rIxS, exists_and_right, gt_iff_lt, not_true_eq_false, not_false_eq_true, Bool.not_true, Bool.not_false, decide_eq_true_eq, Nat.reduceSub, Nat.reduceAdd, List.append_assoc, tChain, tDIn, tDNotIn, sDDel, tAug, ipI]
        refine ⟨m + 1 - (i + 1), by omega, i + 1, _, _, _, _, _, _, rfl, hB8, fun i' x hi' ex => ?_, ?_, rfl⟩
        · rw [fndC_succ es] at ex
          by_cases w2 : i' = i
          · subst w2
            rw [visitC_get es] at ex
            cases ex
            exact fun z hz => han8 z hz
          · obtain ⟨r3, hr3⟩ := visitC_pre (c := c) (s := s') (zs := zs) (f := fndC zs c f0 i)
            rw [← hr3, List.getElem?_append_left (by omega)] at ex
            exact hans i' x (by omega) ex
        rw [fndC_succ es]
        exact Nat.le_trans e visitC_pre.length_le
    · rw [if_neg (show ¬ (i : Int) < ((fndC zs c f0 i).length : Nat) by omega)]
      refine ⟨two, fun tp ntp => ?_⟩
      have kt := (Kp.new ntp : Kp [] H2 (upd H2 tp (.tup [.ref p, .non])))
      have eall := fndC_all hN fm (show i = (fndC zs c f0 i).length by omega)
      refine qA hperm (hAll fun x hx => ?_) tp p ps _ (noneB k2' ntp) upd_same np0 (kt _ _ not0 hp) (by rw [← eall]; exact hps.kp kt) (k2'.trans kt)
      rw [← eall] at hx
      obtain ⟨i', ei⟩ := List.getElem?_of_mem hx
      exact hans i' x (by have := (List.getElem?_eq_some_iff.mp ei).1; omega) ei
end
end My

set_option Elab.async false
set_option linter.all false
set_option maxRecDepth 100000
set_option maxHeartbeats 4000000
namespace My
open PySem L2 NdefX StX
abbrev s_parting : Stmt := top 23
theorem sc_parting : FnScope ["a", "b"] ["a", "b"] (defScope s_parting) := ⟨rfl, rfl, rfl, by decide +kernel, rfl, by decide +kernel, by decide +kernel⟩
abbrev s_alike : Stmt := top 22
theorem sc_alike : FnScope ["a", "b"] ["a", "b"] (defScope s_alike) := ⟨rfl, rfl, rfl, by decide +kernel, rfl, by decide +kernel, by decide +kernel⟩
abbrev s_likeness : Stmt := top 24
theorem sc_likeness : FnScope ["a", "b", "pairs", "row"] ["a", "b"] (defScope s_likeness) := ⟨rfl, rfl, rfl, by decide +kernel, rfl, by decide +kernel, by decide +kernel⟩
structure BtA (mg : Str → Option Value) : Prop where
  b_sorted : mg "sorted" = none
theorem TabIs.bnd2 {TC : Addr} {H : Hp} {o : Addr} {zs : List Str} {m f0 : Nat} {c : Str → Nat → Int × Int} (h : TabIs TC H o zs m (f0 : Nat) c) : Nx zs m c ∧ f0 < m := by
  obtain ⟨rs, hT, ez, hc⟩ := h
  have b := hT.bnd
  refine ⟨fun z hz s hs => ?_, by have := b.2.2.2.2.2.2.1; omega⟩
  have := hT.cells z (by rw [ez]; exact hz) s hs
  rw [hc z hz s hs] at this
  unfold nx
  omega
/-- the two ints of a pair that stands -/
def prG (H : Hp) : V → Int × Int
  | .ref p => match H p with
    | some (.tup [.int a, .int b]) => (a, b)
    | _ => (0, 0)
  | _ => (0, 0)
theorem prG_of {H : Hp} {a b : Int} {p : Addr} (h : H p = some (.tup [.int a, .int b])) : prG H (.ref p) = (a, b) := by
  show (match H p with | some (.tup [.int a, .int b]) => (a, b) | _ => (0, 0)) = _
  rw [h]
def codG (n : Nat) (q : Int × Int) : Nat := q.1.toNat * n + q.2.toNat
theorem cod_of {n x : Nat} : codG n (((x / n : Nat) : Int), ((x % n : Nat) : Int)) = x := by
  show Int.toNat ((x / n : Nat) : Int) * n + Int.toNat ((x % n : Nat) : Int) = x
  rw [Int.toNat_natCast, Int.toNat_natCast, Nat.mul_comm]
  exact Nat.div_add_mod x n
theorem PrsG.mem {H : Hp} {n : Nat} {ps : List V} {F : List Nat} (h : PrsG H n ps F) {v : V} (hv : v ∈ ps) : ∃ p x, v = .ref p ∧ x ∈ F ∧ H p = some (.tup [.int (x / n : Nat), .int (x % n : Nat)]) := by
  obtain ⟨i, ei⟩ := List.getElem?_of_mem hv
  have il : i < F.length := by rw [← h.1]; exact (List.getElem?_eq_some_iff.mp ei).1
  obtain ⟨p, ep, hp⟩ := h.2 i _ (List.getElem?_eq_getElem il)
  rw [ei] at ep
  exact ⟨p, _, Option.some.inj ep, List.getElem_mem il, hp⟩
theorem PrsG.dec {H : Hp} {n : Nat} {ps : List V} {F : List Nat} (h : PrsG H n ps F) : ps.map (fun v => codG n (prG H v)) = F := by
  refine List.ext_getElem? fun i => ?_
  rw [List.getElem?_map]
  cases e : F[i]? with
  | none =>
    rw [List.getElem?_eq_none_iff] at e
    rw [List.getElem?_eq_none (by rw [h.1]; exact e)]
    rfl
  | some x =>
    obtain ⟨p, ep, hp⟩ := h.2 i x e
    rw [ep]
    show some (codG n (prG H (.ref p))) = some x
    rw [prG_of hp, cod_of]
theorem lexG {n x y : Nat} (hx : x % n < n) (hy : y % n < n) (h : SrtO.lexB (((y / n : Nat) : Int), ((y % n : Nat) : Int)) (((x / n : Nat) : Int), ((x % n : Nat) : Int)) = false) : x ≤ y := by
  have a := SrtO.lexB_no.mp h
  have dx := Nat.div_add_mod x n
  have dy := Nat.div_add_mod y n
  dsimp only at a
  have a' : x / n < y / n ∨ (x / n = y / n ∧ x % n ≤ y % n) := by
    clear dx dy
    generalize x / n = a1 at *
    generalize x % n = a2 at *
    generalize y / n = b1 at *
    generalize y % n = b2 at *
    omega
  rcases a' with w | ⟨w, w2⟩
  · have := Nat.mul_le_mul_left n (show x / n + 1 ≤ y / n from w)
    rw [Nat.mul_succ] at this
    omega
  · rw [w] at dx
    omega
theorem sortG {K : PySem.W.Frag} {H : Hp} {l : Addr} {ps : List V} {n : Nat} {F : List Nat} {Q : VK} (hl : H l = some (.lst ps)) (hps : PrsG H n ps F) (hn : 0 < n)
    (q : ∀ p ys G, H p = none → G.Perm F → G.Pairwise (· ≤ ·) → PrsG (upd H p (.lst ys)) n ys G → Q (.ref p) (upd H p (.lst ys))) : rSortedPO K [.ref l] H Q := by
  refine ⟨l, ps, prG H, rfl, sq_l hl, fun v hv => ?_, fun ys p srt stb np => ?_⟩
  · obtain ⟨a, x, rfl, hx, ha⟩ := hps.mem hv
    rw [prG_of ha]
    exact ⟨a, rfl, ha⟩
  · have pm := stb.perm
    have kp := (Kp.new np : Kp [] H (upd H p (.lst ys)))
    have mem : ∀ v ∈ ys, ∃ p x, v = .ref p ∧ x ∈ F ∧ H p = some (.tup [.int (x / n : Nat), .int (x % n : Nat)]) := fun v hv => hps.mem (pm.mem_iff.mp hv)
    refine q p ys (ys.map fun v => codG n (prG H v)) np ?_ (List.pairwise_map.mpr (List.Pairwise.imp_of_mem (fun {u v} hu hv h => ?_) srt)) ⟨by rw [List.length_map], fun i x e => ?_⟩
    · have := pm.map fun v => codG n (prG H v)
      rwa [hps.dec] at this
    · obtain ⟨a, x, rfl, hx, ha⟩ := mem u hu
      obtain ⟨b, y, rfl, hy, hb⟩ := mem v hv
      have h : SrtO.lexB (prG H (.ref b)) (prG H (.ref a)) = false := h
      rw [prG_of ha, prG_of hb] at h ⊢
      rw [cod_of, cod_of]
      exact lexG (Nat.mod_lt _ hn) (Nat.mod_lt _ hn) h
    · rw [List.getElem?_map] at e
      cases ey : ys[i]? with
      | none => rw [ey] at e; cases e
      | some v =>
        rw [ey] at e
        obtain ⟨a, y, rfl, hy, ha⟩ := mem v (List.mem_of_getElem? ey)
        have e : some (codG n (prG H (.ref a))) = some x := e
        rw [prG_of ha, cod_of] at e
        cases e
        exact ⟨a, rfl, kp _ _ not0 ha⟩
/-- the sorted codes of the pairs -/
def SrtG (zs : List Str) (c c' : Str → Nat → Int × Int) (m n f0 g0 : Nat) (G : List Nat) : Prop := G.Perm (fndC zs (pairC c c' n) (f0 * n + g0) (m * n)) ∧ G.Pairwise (· ≤ ·)
section
variable {P : Program} {w : World} {K : PySem.W.Frag} {mg : Str → Option Value} {base : Heap}
def spPart (TC ON : Addr) : Sp := fun vs H Q E => ∃ (oa ob : Addr) (m n f0 g0 : Nat) (zs zs' : List Str) (c c' : Str → Nat → Int × Int), vs = [.ref oa, .ref ob] ∧ TabIs TC H oa zs m (f0 : Nat) c ∧ TabIs TC H ob zs' n (g0 : Nat) c' ∧
  (zs'.Perm zs → Alike zs c c' m n f0 g0 → ∀ H', Kp [] H H' → Q .non H') ∧
  (zs'.Perm zs → ¬ Alike zs c c' m n f0 g0 → ∀ r row H', H r = none → H' r = some (.lst (row.map V.str)) → FirstRow zs c c' n (f0 * n + g0) row → Kp [] H H' → Q (.ref r) H') ∧
  (¬ zs'.Perm zs → ∀ H', Kp [] H H' → E (.ref ON) none H')
theorem ok_parting {f : Addr} {fd : FuncData} (D : Df K mg "parting" s_parting ["a", "b"] f fd) {TC ON fm : Addr} {fdm : FuncData} (D_meeting : Df K mg "meeting" s_meeting ["a", "b"] fm fdm) (G_meeting : FnOk P w K mg base (L2.CX P w) 6 fm fdm ["a", "b"] (spMeet TC ON)) : FnOk P w K mg base (L2.CX P w) 7 f fd ["a", "b"] (spPart TC ON) := by
  refine D.F.okX sc_parting (fun vs H Q E h => ?_) (fun cdv A outer s H vs Q E hr h => ?_)
  · obtain ⟨_, _, _, _, _, _, _, _, _, _, rfl, _⟩ := h
    rfl
  · obtain ⟨oa, ob, m, n, f0, g0, zs, zs', c, c', rfl, hTa, hTb, qA, qB, qE⟩ := h
    refine ⟨_, (pss_one (ps_ret (pe_ix (r := rIxT K) ix_tup (pe_call G_meeting (hr.mono (by decide)) rfl D_meeting.g D_meeting.F.kp D_meeting.b .nil (passes_call (E := E) (takes_of rfl rfl rfl rfl) (fun _ _ _ _ h => h)) (pa_cons (pv 0) (pa_cons (pv 1) pa_nil))) pe_int (fun _ _ => rfl)))), ?_⟩
    try simp (maxSteps := 1000000) only [tSeq, tIfS, tTest, tOp, tUn, tCB, tCons, tNil, tVar, tC, rI0, rI, rU, rEq, rNe, tRet, tRetN, tAsg, gName, gSub, tBM, tBM0, tNext, tB, tNot, tAnd, tOr, tIf, tCall, tDrop, tBreak, tCont, L2.start, tDGet, sDPut, tTup, tLst, tDNewK, tRevL, rCat, rAppend, rPop, rSetL, tAndV, tOrV, tNotV, tSl, tPart, tNoPart, tM1, gTup, gCons, gNil, cxK, cxnK, List.map_cons, List.map_nil, List.length_cons, List.length_nil, List.replicate, List.cons_append, List.nil_append, List.append_nil, List.set_cons_zero, List.set_cons_succ, List.getElem?_cons_zero, List.getElem?_cons_succ, Option.some.injEq, V.ref.injEq, V.int.injEq, V.str.injEq, V.bl.injEq, V.ty.injEq, exists_eq_left', exists_eq_left, exists_and_left, List.cons.injEq, and_true, true_and, sc_ii, sc_ss, sc_bb, sc_ni, sc_in, sc_is, sc_si, sc_nn, decide_true, decide_false, reduceCtorEq, Bool.false_eq_true, if_true, if_false, ite_true, ite_false, exists_const, eq_self, false_and, and_false, or_false, false_or, exists_false, Evl.rLenS, rSum, wipe, tYes, exists_eq, exists_eq', rIxL, rIxT, rIxS, exists_and_right, gt_iff_lt, not_true_eq_false, not_false_eq_true, Bool.not_true, Bool.not_false, decide_eq_true_eq, Nat.reduceSub, Nat.reduceAdd, List.append_assoc, tChain, tDIn, tDNotIn, sDDel, tAug, ipI]
    exact ⟨oa, ob, m, n, f0, g0, zs, zs', c, c', rfl, hTa, hTb, fun hp hA tp l ps H' ntp htp nl hl hps k => ⟨tp, rfl, _, sq_t htp, .non, rfl, qA hp hA H' k⟩, fun hp hA tp l r row H' ntp htp nr hrr hF k => ⟨tp, rfl, _, sq_t htp, .ref r, rfl, qB hp hA r row H' nr hrr hF k⟩, fun hp H' k => qE hp H' k⟩
def spAlike (TC ON : Addr) : Sp := fun vs H Q E => ∃ (oa ob : Addr) (m n f0 g0 : Nat) (zs zs' : List Str) (c c' : Str → Nat → Int × Int), vs = [.ref oa, .ref ob] ∧ TabIs TC H oa zs m (f0 : Nat) c ∧ TabIs TC H ob zs' n (g0 : Nat) c' ∧
  (zs'.Perm zs → ∀ (b : Bool) H', (b = true ↔ Alike zs c c' m n f0 g0) → Kp [] H H' → Q (.bl b) H') ∧
  (¬ zs'.Perm zs → ∀ H', Kp [] H H' → E (.ref ON) none H')
theorem ok_alike {f : Addr} {fd : FuncData} (D : Df K mg "alike" s_alike ["a", "b"] f fd) {TC ON fm : Addr} {fdm : FuncData} (D_parting : Df K mg "parting" s_parting ["a", "b"] fm fdm) (G_parting : FnOk P w K mg base (L2.CX P w) 7 fm fdm ["a", "b"] (spPart TC ON)) : FnOk P w K mg base (L2.CX P w) 8 f fd ["a", "b"] (spAlike TC ON) := by
  refine D.F.okX sc_alike (fun vs H Q E h => ?_) (fun cdv A outer s H vs Q E hr h => ?_)
  · obtain ⟨_, _, _, _, _, _, _, _, _, _, rfl, _⟩ := h
    rfl
  · obtain ⟨oa, ob, m, n, f0, g0, zs, zs', c, c', rfl, hTa, hTb, qA, qE⟩ := h
    refine ⟨_, (pss_one (ps_ret (pe_cmpR op_isN (pe_call G_parting (hr.mono (by decide)) rfl D_parting.g D_parting.F.kp D_parting.b .nil (passes_call (E := E) (takes_of rfl rfl rfl rfl) (fun _ _ _ _ h => h)) (pa_cons (pv 0) (pa_cons (pv 1) pa_nil))) pe_non (nomark _)))), ?_⟩
    try simp (maxSteps := 1000000) only [tSeq, tIfS, tTest, tOp, tUn, tCB, tCons, tNil, tVar, tC, rI0, rI, rU, rEq, rNe, tRet, tRetN, tAsg, gName, gSub, tBM, tBM0, tNext, tB, tNot, tAnd, tOr, tIf, tCall, tDrop, tBreak, tCont, L2.start, tDGet, sDPut, tTup, tLst, tDNewK, tRevL, rCat, rAppend, rPop, rSetL, tAndV, tOrV, tNotV, tSl, tPart, tNoPart, tM1, gTup, gCons, gNil, cxK, cxnK, List.map_cons, List.map_nil, List.length_cons, List.length_nil, List.replicate, List.cons_append, List.nil_append, List.append_nil, List.set_cons_zero, List.set_cons_succ, List.getElem?_cons_zero, List.getElem?_cons_succ, Option.some.injEq, V.ref.injEq, V.int.injEq, V.str.injEq, V.bl.injEq, V.ty.injEq, exists_eq_left', exists_eq_left, exists_and_left, List.cons.injEq, and_true, true_and, sc_ii, sc_ss, sc_bb, sc_ni, sc_in, sc_is, sc_si, sc_nn, decide_true, decide_false, reduceCtorEq, Bool.false_eq_true, if_true, if_false, ite_true, ite_false, exists_const, eq_self, false_and, and_false, or_false, false_or, exists_false, Evl.rLenS, rSum, wipe, tYes, exists_eq, exists_eq', rIxL, rIxT, rIxS, exists_and_right, gt_iff_lt, not_true_eq_false, not_false_eq_true, Bool.not_true, Bool.not_false, decide_eq_true_eq, Nat.reduceSub, Nat.reduceAdd, List.append_assoc, tChain, tDIn, tDNotIn, sDDel, tAug, ipI]
    exact ⟨oa, ob, m, n, f0, g0, zs, zs', c, c', rfl, hTa, hTb, fun hp hA H' k => qA hp true H' ⟨fun _ => hA, fun _ => rfl⟩ k, fun hp hA r row H' nr hrr hF k => qA hp false H' ⟨fun z => (nomatch z), fun z => absurd z hA⟩ k, fun hp H' k => qE hp H' k⟩
def spLike (TC ON : Addr) : Sp := fun vs H Q E => ∃ (oa ob : Addr) (m n f0 g0 : Nat) (zs zs' : List Str) (c c' : Str → Nat → Int × Int), vs = [.ref oa, .ref ob] ∧ TabIs TC H oa zs m (f0 : Nat) c ∧ TabIs TC H ob zs' n (g0 : Nat) c' ∧
  (zs'.Perm zs → Alike zs c c' m n f0 g0 → ∀ l ps G H', H l = none → H' l = some (.lst ps) → PrsG H' n ps G → SrtG zs c c' m n f0 g0 G → Kp [] H H' → Q (.ref l) H') ∧
  (zs'.Perm zs → ¬ Alike zs c c' m n f0 g0 → ∀ H', Kp [] H H' → Q .non H') ∧
  (¬ zs'.Perm zs → ∀ H', Kp [] H H' → E (.ref ON) none H')
theorem ok_likeness {f : Addr} {fd : FuncData} (D : Df K mg "likeness" s_likeness ["a", "b"] f fd) (T : BtA mg) {TC ON fm : Addr} {fdm : FuncData} (D_meeting : Df K mg "meeting" s_meeting ["a", "b"] fm fdm) (G_meeting : FnOk P w K mg base (L2.CX P w) 6 fm fdm ["a", "b"] (spMeet TC ON)) : FnOk P w K mg base (L2.CX P w) 7 f fd ["a", "b"] (spLike TC ON) := by
  refine D.F.okX sc_likeness (fun vs H Q E h => ?_) (fun cdv A outer s H vs Q E hr h => ?_)
  · obtain ⟨_, _, _, _, _, _, _, _, _, _, rfl, _⟩ := h
    rfl
  · obtain ⟨oa, ob, m, n, f0, g0, zs, zs', c, c', rfl, hTa, hTb, qA, qB, qE⟩ := h
    have bTb := hTb.bnd2
    refine ⟨_, (pss_cons (ps_asg (pe_call G_meeting (hr.mono (by decide)) rfl D_meeting.g D_meeting.F.kp D_meeting.b .nil (passes_call (E := E) (takes_of rfl rfl rfl rfl) (fun _ _ _ _ h => h)) (pa_cons (pv 0) (pa_cons (pv 1) pa_nil))) (pg_tup (n := 2) (by rfl) (pgs_cons (pg_name (i := 2) sc_likeness.nd rfl (Or.inl rfl)) (pgs_cons (pg_name (i := 3) sc_likeness.nd rfl (Or.inl rfl)) pgs_nil))))
      (pss_one (ps_ret (pe_ifExp (pt_cmpR op_isN (pv 3) pe_non (nomark _)) (pe_callB (id := "sorted") cr_sortedPO (by rfl) T.b_sorted (by decide +kernel) (pa_cons (pv 2) pa_nil)) pe_non)))), ?_⟩
    try simp (maxSteps := 1000000) only [tSeq, tIfS, tTest, tOp, tUn, tCB, tCons, tNil, tVar, tC, rI0, rI, rU, rEq, rNe, tRet, tRetN, tAsg, gName, gSub, tBM, tBM0, tNext, tB, tNot, tAnd, tOr, tIf, tCall, tDrop, tBreak, tCont, L2.start, tDGet, sDPut, tTup, tLst, tDNewK, tRevL, rCat, rAppend, rPop, rSetL, tAndV, tOrV, tNotV, tSl, tPart, tNoPart, tM1, gTup, gCons, gNil, cxK, cxnK, List.map_cons, List.map_nil, List.length_cons, List.length_nil, List.replicate, List.cons_append, List.nil_append, List.append_nil, List.set_cons_zero, List.set_cons_succ, List.getElem?_cons_zero, List.getElem?_cons_succ, Option.some.injEq, V.ref.injEq, V.int.injEq, V.str.injEq, V.bl.injEq, V.ty.injEq, exists_eq_left', exists_eq_left, exists_and_left, List.cons.injEq, and_true, true_and, sc_ii, sc_ss, sc_bb, sc_ni, sc_in, sc_is, sc_si, sc_nn, decide_true, decide_false, reduceCtorEq, Bool.false_eq_true, if_true, if_false, ite_true, ite_false, exists_const, eq_self, false_and, and_false, or_false, false_or, exists_false, Evl.rLenS, rSum, wipe, tYes, exists_eq, exists_eq', rIxL, rIxT, rIxS, exists_and_right, gt_iff_lt, not_true_eq_false, not_false_eq_true, Bool.not_true, Bool.not_false, decide_eq_true_eq, Nat.reduceSub, Nat.reduceAdd, List.append_assoc, tChain, tDIn, tDNotIn, sDDel, tAug, ipI]
    refine ⟨oa, ob, m, n, f0, g0, zs, zs', c, c', rfl, hTa, hTb, fun hp hA tp l ps H' ntp htp nl hl hps k => ?_, fun hp hA tp l r row H' ntp htp nr hrr hF k => ?_, fun hp H' k => qE hp H' k⟩
    · refine ⟨tp, rfl, _, sq_t htp, rfl, _, _, rfl, _, _, rfl, rfl, ?_⟩
      rw [if_pos rfl]
      exact sortG hl hps (by have := bTb.2; omega) fun p ys G np pm pw hps' => qA hp hA p ys G _ (noneB k np) upd_same hps' ⟨pm, pw⟩ (k.trans (Kp.new np))
    · refine ⟨tp, rfl, _, sq_t htp, rfl, _, _, rfl, _, _, rfl, rfl, ?_⟩
      rw [if_neg (fun z => by cases z)]
      exact qB hp hA H' k
end
end My

set_option Elab.async false
set_option linter.all false
set_option maxRecDepth 100000
set_option maxHeartbeats 4000000
/-! ### what the first parting row is: short, and the first by the names' order -/
namespace My
open PySem L2
theorem idx_at {zs : List Str} (nd : zs.Nodup) {i : Nat} {z : Str} (ez : zs[i]? = some z) : zs.idxOf z = i := by
  obtain ⟨hj, ej⟩ := List.getElem?_eq_some_iff.mp ez
  have hz : z ∈ zs := List.mem_of_getElem? ez
  have h1 := List.idxOf_lt_length_iff.mpr hz
  have h2 : zs[zs.idxOf z] = z := List.getElem_idxOf h1
  exact (List.getElem_inj nd).mp (h2.trans ej.symm)
theorem idx_pw {zs : List Str} (nd : zs.Nodup) : zs.Pairwise fun a b => zs.idxOf a < zs.idxOf b := by
  rw [List.pairwise_iff_getElem]
  intro i j hi hj h
  rw [idx_at nd (List.getElem?_eq_getElem hi), idx_at nd (List.getElem?_eq_getElem hj)]
  exact h
/-- two states of a pair answer otherwise -/
def DfP (zs : List Str) (c c' : Str → Nat → Int × Int) (n x : Nat) : Prop := ∃ z ∈ zs, (c z (x / n)).1 ≠ (c' z (x % n)).1
/-- a row of k calls leads from x to a pair that answers otherwise -/
def WdP (zs : List Str) (c c' : Str → Nat → Int × Int) (n x k : Nat) : Prop := ∃ w : List Str, w.length = k ∧ (∀ z ∈ w, z ∈ zs) ∧ DfP zs c c' n (runC (pairC c c' n) x w)
section
variable {zs : List Str} {c c' : Str → Nat → Int × Int} {n f0 : Nat}
theorem WdP.zero {x : Nat} : WdP zs c c' n x 0 ↔ DfP zs c c' n x := by
  constructor
  · rintro ⟨w, h, _, d⟩
    rw [List.length_eq_zero_iff.mp h] at d
    exact d
  · exact fun d => ⟨[], rfl, fun z h => (nomatch h), d⟩
theorem WdP.succ {x k : Nat} : WdP zs c c' n x (k + 1) ↔ ∃ z ∈ zs, WdP zs c c' n (nx (pairC c c' n) z x) k := by
  constructor
  · rintro ⟨w, h, hz, d⟩
    cases w with
    | nil => cases h
    | cons z w => exact ⟨z, hz z List.mem_cons_self, w, by simpa using h, fun y hy => hz y (List.mem_cons_of_mem _ hy), d⟩
  · rintro ⟨z, hz, w, h, hw, d⟩
    refine ⟨z :: w, by simpa using h, fun y hy => ?_, d⟩
    rcases List.mem_cons.mp hy with rfl | hy
    · exact hz
    · exact hw y hy
/-- how far a pair is from one that answers otherwise -/
def DistIs (zs : List Str) (c c' : Str → Nat → Int × Int) (n x k : Nat) : Prop := WdP zs c c' n x k ∧ ∀ j, j < k → ¬ WdP zs c c' n x j
theorem DistIs.uniq {x k k' : Nat} (h : DistIs zs c c' n x k) (h' : DistIs zs c c' n x k') : k = k' := by
  rcases Nat.lt_trichotomy k k' with w | w | w
  · exact absurd h.1 (h'.2 k w)
  · exact w
  · exact absurd h'.1 (h.2 k' w)
theorem DistIs.step {x k : Nat} (h : DistIs zs c c' n x (k + 1)) : ∃ z ∈ zs, DistIs zs c c' n (nx (pairC c c' n) z x) k := by
  obtain ⟨z, hz, h1⟩ := WdP.succ.mp h.1
  exact ⟨z, hz, h1, fun j hj hw => h.2 (j + 1) (by omega) (WdP.succ.mpr ⟨z, hz, hw⟩)⟩
theorem dist_ex {x k : Nat} (h : WdP zs c c' n x k) : ∃ j, j ≤ k ∧ DistIs zs c c' n x j := by
  induction k using Nat.strongRecOn with
  | ind k ih =>
    by_cases w : ∃ j, j < k ∧ WdP zs c c' n x j
    · obtain ⟨j, hj, hw⟩ := w
      obtain ⟨i, hi, hd⟩ := ih j hj hw
      exact ⟨i, by omega, hd⟩
    · exact ⟨k, Nat.le_refl _, h, fun j hj hw => w ⟨j, hj, hw⟩⟩
/-- the first row: its length, its way, and that each of its calls is the first that will do -/
theorem first_spec (nd : zs.Nodup) {row : List Str} (h : FirstRow zs c c' n f0 row) : ∃ L, row.length = L + 1 ∧ (∀ z ∈ row, z ∈ zs) ∧
    (∀ k, k ≤ L → DistIs zs c c' n (runC (pairC c c' n) f0 (row.take k)) (L - k)) ∧
    (∀ k z, k < L → row[k]? = some z → ∀ y ∈ zs, zs.idxOf y < zs.idxOf z → ¬ DistIs zs c c' n (nx (pairC c c' n) y (runC (pairC c c' n) f0 (row.take k))) (L - k - 1)) ∧
    (∃ z x, row[L]? = some z ∧ runC (pairC c c' n) f0 (row.take L) = x ∧ (c z (x / n)).1 ≠ (c' z (x % n)).1 ∧ ∀ y ∈ zs, zs.idxOf y < zs.idxOf z → (c y (x / n)).1 = (c' y (x % n)).1) := by
  obtain ⟨i, x, j, ρ, z, rfl, ei, hans, ez, hbef, hdiff⟩ := h
  have B := bfs_BI (c := pairC c c' n) (f0 := f0) (idx_pw nd) i
  have hx : runC (pairC c c' n) f0 ρ = x := B.run _ (List.mem_of_getElem? ei)
  have hρ : ∀ y ∈ ρ, y ∈ zs := B.sub _ (List.mem_of_getElem? ei)
  have hz := List.mem_of_getElem? ez
  have hD : DfP zs c c' n x := ⟨z, hz, hdiff⟩
  have least : ∀ w : List Str, (∀ y ∈ w, y ∈ zs) → sl zs.idxOf w ρ → ¬ DfP zs c c' n (runC (pairC c c' n) f0 w) := fun w hw hs ⟨y, hy, hd⟩ => by
    obtain ⟨k, e, ki, ek, e1, _⟩ := B.least ei w hw hs
    refine hd (hans k _ ki ?_ y hy)
    rw [← bfsR_fst, List.getElem?_map, ek, ← e1]
    rfl
  have tk : ∀ k, k ≤ ρ.length → (ρ ++ [z]).take k = ρ.take k := fun k hk => List.take_append_of_le_length hk
  have sub : ∀ k, ∀ y ∈ ρ.take k, y ∈ zs := fun k y hy => hρ y (List.mem_of_mem_take hy)
  refine ⟨ρ.length, by rw [List.length_append]; rfl, fun y hy => ?_, fun k hk => ⟨⟨ρ.drop k, by rw [List.length_drop], fun y hy => hρ y (List.mem_of_mem_drop hy), ?_⟩, fun q hq ⟨w, hw, hwz, hwd⟩ => ?_⟩, fun k y0 hk ek y hy hlt hdist => ?_, z, x, by rw [List.getElem?_append_right (Nat.le_refl _), Nat.sub_self]; rfl, by rw [tk _ (Nat.le_refl _), List.take_length]; exact hx, hdiff, fun y hy hlt => ?_⟩
  · rcases List.mem_append.mp hy with hy | hy
    · exact hρ y hy
    · rw [List.mem_singleton.mp hy]; exact hz
  · rw [tk k hk, ← runC_app, List.take_append_drop, hx]
    exact hD
  · rw [tk k hk, ← runC_app] at hwd
    refine least (ρ.take k ++ w) (fun y hy => ?_) (.inl ?_) hwd
    · rcases List.mem_append.mp hy with hy | hy
      · exact sub k y hy
      · exact hwz y hy
    · rw [List.length_append, List.length_take, hw]; omega
  · obtain ⟨⟨w, hw, hwz, hwd⟩, _⟩ := hdist
    rw [tk k (by omega), ← runC_snoc, ← runC_app] at hwd
    rw [List.getElem?_append_left hk] at ek
    have es : ρ = ρ.take k ++ y0 :: ρ.drop (k + 1) := by
      obtain ⟨h1, h2⟩ := List.getElem?_eq_some_iff.mp ek
      rw [← h2, ← List.drop_eq_getElem_cons h1, List.take_append_drop]
    refine least (ρ.take k ++ [y] ++ w) (fun q hq => ?_) (.inr ⟨?_, ?_⟩) hwd
    · rcases List.mem_append.mp hq with hq | hq
      · rcases List.mem_append.mp hq with hq | hq
        · exact sub k q hq
        · rw [List.mem_singleton.mp hq]; exact hy
      · exact hwz q hq
    · rw [List.length_append, List.length_append, List.length_take, hw, List.length_singleton]; omega
    · rw [List.append_assoc]
      conv => rhs; rw [es]
      exact lx_pre _ (.inl hlt)
  · refine hbef y ?_
    obtain ⟨a, ea⟩ := List.getElem?_of_mem hy
    rw [idx_at nd ea, idx_at nd ez] at hlt
    exact List.mem_of_getElem? (i := a) (by rw [List.getElem?_take_of_lt hlt]; exact ea)
/-- nothing parts two tables that are alike, and something parts two that aren't -/
theorem alike_no {m g0 : Nat} {s0 : Nat} (hg : g0 < n) (hN' : Nx zs n c') (h : Alike zs c c' m n s0 g0) : ∀ k, ¬ WdP zs c c' n (s0 * n + g0) k := by
  rintro k ⟨w, _, hw, z, hz, hd⟩
  obtain ⟨S, hA⟩ := h
  have : S (runC (pairC c c' n) (s0 * n + g0) w / n) (runC (pairC c c' n) (s0 * n + g0) w % n) := by
    revert hw
    refine snocInd (p := fun w => (∀ z ∈ w, z ∈ zs) → S (runC (pairC c c' n) (s0 * n + g0) w / n) (runC (pairC c c' n) (s0 * n + g0) w % n)) (fun _ => ?_) (fun v y ih hv => ?_) w
    · show S ((s0 * n + g0) / n) ((s0 * n + g0) % n)
      rw [pair_div hg, pair_mod hg]
      exact hA.zero
    · have r := ih fun q hq => hv q (List.mem_append_left _ hq)
      have hy := hv y (List.mem_append_right _ List.mem_cons_self)
      obtain ⟨a, b, q⟩ := hA.step _ _ r
      have n2 := hN' y hy _ b
      rw [runC_snoc, pair_nx, pair_div n2, pair_mod n2]
      exact (q y hy).2
  exact hd ((hA.step _ _ this).2.2 z hz).1
end
end My

set_option Elab.async false
set_option linter.all false
set_option maxRecDepth 100000
set_option maxHeartbeats 4000000
namespace My
open PySem L2 NdefX StX
abbrev s_law_copies : Stmt := top 35
theorem sc_law_copies : FnScope ["_law_script", "_law_at", "_law_names_here", "_law_rows_here", "_law_start", "_law_size", "_law_spots", "_law_origin", "_law_state", "_law_left_here", "_law_mixed_here", "_law_k", "_law_used", "_law_found", "_law_name", "_law_row", "_law_pair", "_law_same", "_law_j"] ["_law_script", "_law_at", "_law_names_here", "_law_rows_here", "_law_start"] (defScope s_law_copies) := ⟨rfl, rfl, rfl, by decide +kernel, rfl, by decide +kernel, by decide +kernel⟩
structure BtP (mg : Str → Option Value) : Prop where
  b_len : mg "len" = none
  b_range : mg "range" = none
  b_int : mg "int" = none
  b_list : mg "list" = none
theorem RwAt.congr {H : Hp} {d : Addr} {zs : List Str} {m : Nat} {c c' : Str → Nat → Int × Int} (h : RwAt H d zs m c) (e : ∀ z ∈ zs, ∀ s, s < m → c z s = c' z s) : RwAt H d zs m c' := by
  obtain ⟨kvs, hd, hl, hv⟩ := h
  refine ⟨kvs, hd, hl, fun i z ez => ?_⟩
  obtain ⟨l, xs, a, b, cc⟩ := hv i z ez
  refine ⟨l, xs, a, b, cc.1, fun s hs => ?_⟩
  rw [← e z (List.mem_of_getElem? ez) s hs]
  exact cc.2 s hs
theorem Cells.congr {f g : Nat → Int × Int} {xs : List V} {k : Nat} {H : Hp} (h : Cells f xs k H) (e : ∀ s, s < k → f s = g s) : Cells g xs k H :=
  ⟨h.1, fun s hs => by rw [← e s hs]; exact h.2 s hs⟩
theorem eraseMap {α β : Type} (f : α → β) : ∀ (l : List α) (k : Nat), (l.map f).eraseIdx k = (l.eraseIdx k).map f
  | [], _ => rfl
  | _ :: _, 0 => rfl
  | a :: l, k + 1 => by
    show f a :: (l.map f).eraseIdx k = f a :: (l.eraseIdx k).map f
    rw [eraseMap f l k]
theorem rep_flatI (v : Int) : ∀ k : Nat, (List.replicate k [V.int v]).flatten = (List.replicate k v).map V.int
  | 0 => rfl
  | k + 1 => by rw [List.replicate_succ, List.flatten_cons, rep_flatI v k, List.replicate_succ]; rfl
section
variable {P : Program} {w : World} {K : PySem.W.Frag} {mg : Str → Option Value} {base : Heap}
/-- at d a dict of rows; its lists are new, and each by itself -/
def RwL (H H' : Hp) (d : Addr) (zs : List Str) (m : Nat) (c : Str → Nat → Int × Int) : Prop := RwAt H' d zs m c ∧ ∃ (kvs : List (Key × V)) (ls : List Addr), H' d = some (.dK kvs) ∧ kvs.map (·.2) = ls.map V.ref ∧ ls.Nodup ∧ ∀ l ∈ ls, H l = none ∧ ∃ xs, H' l = some (.lst xs)
/-- what copies keep -/
def CopyOk (zs : List Str) (c c' : Str → Nat → Int × Int) (n : Nat) (M : List Nat) : Prop := ∀ z ∈ zs, ∀ s, s < n → (c' z s).1 = (c z (M.getD s 0)).1 ∧ M.getD (nx c' z s) 0 = nx c z (M.getD s 0)
theorem RwL.kp {H H1 H2 : Hp} {d : Addr} {zs : List Str} {m : Nat} {c : Str → Nat → Int × Int} (h : RwL H H1 d zs m c) (k : Kp [] H1 H2) : RwL H H2 d zs m c := by
  obtain ⟨a, kvs, ls, b, e, f, g⟩ := h
  exact ⟨a.kp k, kvs, ls, k _ _ not0 b, e, f, fun l hl => ⟨(g l hl).1, by
    obtain ⟨xs, hx⟩ := (g l hl).2
    exact ⟨xs, k _ _ not0 hx⟩⟩⟩
def spCopies (K : PySem.W.Frag) : Sp := fun vs H Q _ => ∃ (a nl rd : Addr) (at_ m s0 : Nat) (ns : List Int) (zs : List Str) (c : Str → Nat → Int × Int), vs = [.ref a, .int (at_ : Nat), .ref nl, .ref rd, .int (s0 : Nat)] ∧ Scr K H a ns ∧ at_ ≤ 1000 ∧ RwAt H rd zs m c ∧ H nl = some (.lst (zs.map V.str)) ∧ zs.Nodup ∧ zs ≠ [] ∧ zs.length ≤ 6 ∧ CellB zs m 10 c ∧ 1 ≤ m ∧ m ≤ 10 ∧ s0 < m ∧
  ∀ (l r x : Addr) (s' : Nat) (M : List Nat) (c' : Str → Nat → Int × Int) (H' : Hp), H l = none → H r = none → H x = none → H' l = some (.lst [.ref r, .int (s' : Nat), .ref x]) → H' x = some (.lst (M.map fun x => V.int (x : Nat))) → RwL H H' r zs M.length c' → CellB zs M.length 10 c' → 1 ≤ M.length → M.length ≤ 2 * m → (∀ x ∈ M, x < m) → CopyOk zs c c' M.length M → s' < M.length → M.getD s' 0 = s0 → Kp [] H H' → Q (.ref l) H'
theorem ok_law_copies {f : Addr} {fd : FuncData} (D : Df K mg "_law_copies" s_law_copies ["_law_script", "_law_at", "_law_names_here", "_law_rows_here", "_law_start"] f fd) (T : BtP mg) {fg : Addr} {fdg : FuncData} (D_law_draws : Df K mg "_law_draws" s_law_draws ["_law_script", "_law_at", "_law_bounds"] fg fdg) (G_law_draws : FnOk P w K mg base CX0 2 fg fdg ["_law_script", "_law_at", "_law_bounds"] (spDraws K)) : FnOk P w K mg base CX0 3 f fd ["_law_script", "_law_at", "_law_names_here", "_law_rows_here", "_law_start"] (spCopies K) := by
  refine D.F.ok sc_law_copies (fun vs H Q E h => ?_) (fun cdv A outer s H vs Q E hr h => ?_)
  · obtain ⟨a, nl, rd, at_, m, s0, ns, zs, c, rfl, _⟩ := h
    rfl
  · obtain ⟨a, nl, rd, at_, m, s0, ns, zs, c, rfl, hS, a1, hrw, hn, nd, zne, z6, hb, m1, m10, s0m, q⟩ := h
    have hu := hu_of hr
    refine ⟨_, (pss_cons (ps_set (i := 5) sc_law_copies.nd rfl (Or.inl rfl) (pe_callB (id := "len") (r := Evl.rLenS K) call_len_seq (by rfl) T.b_len PySem.boot_len (pa_cons (pe_dget hu (pv 3) (pe_ix (r := rIxL K) ix_list (pv 2) pe_int (fun _ _ => rfl)) (fun _ _ => rfl)) pa_nil)))
      (pss_cons (ps_set (i := 6) sc_law_copies.nd rfl (Or.inl rfl) (pe_call G_law_draws (hr.mono (by decide)) rfl D_law_draws.g D_law_draws.F.kp D_law_draws.b .nil pass0 (pa_cons (pv 0) (pa_cons (pv 1) (pa_cons (pe_op op_cat (pe_op op_rep (pe_lst (pa_cons pe_int pa_nil)) (pv 5)) (pe_op op_rep (pe_lst (pa_cons pe_int pa_nil)) (pe_op op_add (pe_op op_add (pe_op op_mul pe_int (pv 5)) (pe_op op_mul (pe_op op_mul pe_int (pv 5)) (pe_callB (id := "len") (r := Evl.rLenS K) call_len_seq (by rfl) T.b_len PySem.boot_len (pa_cons (pv 2) pa_nil)))) pe_int))) pa_nil)))))
      (pss_cons (ps_set (i := 7) sc_law_copies.nd rfl (Or.inl rfl) (pe_lst pa_nil))
      (pss_cons (ps_for PassesOwn.never rfl (pi_range1 rfl T.b_range (pa_cons (pv 5) pa_nil)) (pg_name (i := 8) sc_law_copies.nd rfl (Or.inl rfl)) (pss_one (ps_set (i := 7) sc_law_copies.nd rfl (Or.inl rfl) (pe_op op_cat (pv 7) (pe_op op_rep (pe_lst (pa_cons (pv 8) pa_nil)) (pe_op op_add pe_int (pe_ix (r := rIxL K) ix_list (pv 6) (pv 8) (fun _ _ => rfl))))))))
      (pss_cons (ps_set (i := 9) sc_law_copies.nd rfl (Or.inl rfl) (pe_callTy call_list_of (by rfl) T.b_list (by decide +kernel) (pa_cons (pv 7) pa_nil)))
      (pss_cons (ps_set (i := 10) sc_law_copies.nd rfl (Or.inr rfl) (pe_lst pa_nil))
      (pss_cons (ps_for PassesOwn.never rfl (pi_range1 rfl T.b_range (pa_cons (pe_callB (id := "len") (r := Evl.rLenS K) call_len_seq (by rfl) T.b_len PySem.boot_len (pa_cons (pv 7) pa_nil)) pa_nil)) (pg_name (i := 11) sc_law_copies.nd rfl (Or.inl rfl)) (pss_one (ps_expr (pe_bm PySem.F.plainAttrs_list PySem.F.slot_list_append PySem.F.type_list_append mt_append (pv 10) (pa_cons (pe_bm PySem.F.plainAttrs_list PySem.F.slot_list_pop PySem.F.type_list_pop mt_popAt (pv 9) (pa_cons (pe_op op_mod (pe_callTy (T := "int") (r := rIv) call_int1 (by rfl) T.b_int (by decide +kernel) (pa_cons (pe_ix (r := rIxL K) ix_list (pv 6) (pe_op op_add (pv 5) (pv 11)) (fun _ _ => rfl)) pa_nil)) (pe_callB (id := "len") (r := Evl.rLenS K) call_len_seq (by rfl) T.b_len PySem.boot_len (pa_cons (pv 9) pa_nil))) pa_nil)) pa_nil)))))
      (pss_cons (ps_set (i := 12) sc_law_copies.nd rfl (Or.inl rfl) (pe_op op_mul pe_int (pv 5)))
      (pss_cons (ps_set (i := 13) sc_law_copies.nd rfl (Or.inl rfl) pe_dnewK)
      (pss_cons (ps_for PassesOwn.never rfl (pi_list (pv 2)) (pg_name (i := 14) sc_law_copies.nd rfl (Or.inl rfl)) (pss_cons (ps_set (i := 15) sc_law_copies.nd rfl (Or.inl rfl) (pe_lst pa_nil))
      (pss_cons (ps_for PassesOwn.never rfl (pi_list (pv 10)) (pg_name (i := 8) sc_law_copies.nd rfl (Or.inl rfl)) (pss_cons (ps_set (i := 16) sc_law_copies.nd rfl (Or.inr rfl) (pe_ix (r := rIxL K) ix_list (pe_dget hu (pv 3) (pv 14) (fun _ _ => rfl)) (pv 8) (fun _ _ => rfl)))
      (pss_cons (ps_setLc (i := 17) (own := [("_law_j", 18)]) (g := (gName 18)) rfl sc_law_copies.nd rfl rfl (sw_true rfl rfl rfl (by decide +kernel)) (pi_range1 rfl T.b_range (pa_cons (pe_callB (id := "len") (r := Evl.rLenS K) call_len_seq (by rfl) T.b_len PySem.boot_len (pa_cons (pv 10) pa_nil)) pa_nil)) (blkOk_by (N := ["_law_script", "_law_at", "_law_names_here", "_law_rows_here", "_law_start", "_law_size", "_law_spots", "_law_origin", "_law_state", "_law_left_here", "_law_mixed_here", "_law_k", "_law_used", "_law_found", "_law_name", "_law_row", "_law_pair", "_law_same", "_law_j"]) (sc := defScope s_law_copies) (by decide +kernel)) (fun _ _ _ _ _ => (pg_name (i := 18) sc_law_copies.nd rfl (Or.inl rfl))) (fun _ _ _ _ _ => (pts_one (pt_cmpR op_eq (pe_ix (r := rIxL K) ix_list (pv 10) (pv 18) (fun _ _ => rfl)) (pe_ix (r := rIxT K) ix_tup (pv 16) pe_int (fun _ _ => rfl)) (nomark _)))) (fun _ _ _ _ _ => (pv 18)))
      (pss_cons (ps_expr (pe_bm PySem.F.plainAttrs_list PySem.F.slot_list_append PySem.F.type_list_append mt_append (pv 15) (pa_cons (pe_tup (pa_cons (pe_ix (r := rIxT K) ix_tup (pv 16) pe_int (fun _ _ => rfl)) (pa_cons (pe_ix (r := rIxL K) ix_list (pv 17) (pe_op op_mod (pe_callTy (T := "int") (r := rIv) call_int1 (by rfl) T.b_int (by decide +kernel) (pa_cons (pe_ix (r := rIxL K) ix_list (pv 6) (pv 12) (fun _ _ => rfl)) pa_nil)) (pe_callB (id := "len") (r := Evl.rLenS K) call_len_seq (by rfl) T.b_len PySem.boot_len (pa_cons (pv 17) pa_nil))) (fun _ _ => rfl)) pa_nil))) pa_nil)))
      (pss_one (ps_aug (i := 12) sc_law_copies.nd rfl (Or.inl rfl) pe_int ip_add))))))
      (pss_one (ps_dput hu (pv 13) (pv 14) (pv 15) rfl)))))
      (pss_cons (ps_setLc (i := 17) (own := [("_law_j", 18)]) (g := (gName 18)) rfl sc_law_copies.nd rfl rfl (sw_true rfl rfl rfl (by decide +kernel)) (pi_range1 rfl T.b_range (pa_cons (pe_callB (id := "len") (r := Evl.rLenS K) call_len_seq (by rfl) T.b_len PySem.boot_len (pa_cons (pv 10) pa_nil)) pa_nil)) (blkOk_by (N := ["_law_script", "_law_at", "_law_names_here", "_law_rows_here", "_law_start", "_law_size", "_law_spots", "_law_origin", "_law_state", "_law_left_here", "_law_mixed_here", "_law_k", "_law_used", "_law_found", "_law_name", "_law_row", "_law_pair", "_law_same", "_law_j"]) (sc := defScope s_law_copies) (by decide +kernel)) (fun _ _ _ _ _ => (pg_name (i := 18) sc_law_copies.nd rfl (Or.inl rfl))) (fun _ _ _ _ _ => (pts_one (pt_cmpR op_eq (pe_ix (r := rIxL K) ix_list (pv 10) (pv 18) (fun _ _ => rfl)) (pv 4) (nomark _)))) (fun _ _ _ _ _ => (pv 18)))
      (pss_one (ps_ret (pe_lst (pa_cons (pv 13) (pa_cons (pe_ix (r := rIxL K) ix_list (pv 17) (pe_op op_mod (pe_callTy (T := "int") (r := rIv) call_int1 (by rfl) T.b_int (by decide +kernel) (pa_cons (pe_ix (r := rIxL K) ix_list (pv 6) (pv 12) (fun _ _ => rfl)) pa_nil)) (pe_callB (id := "len") (r := Evl.rLenS K) call_len_seq (by rfl) T.b_len PySem.boot_len (pa_cons (pv 17) pa_nil))) (fun _ _ => rfl)) (pa_cons (pv 10) pa_nil))))))))))))))))), ?_⟩
    try simp (maxSteps := 1000000) only [tSeq, tIfS, tTest, tOp, tUn, tCB, tCons, tNil, tVar, tC, rI0, rI, rU, rEq, rNe, tRet, tRetN, tAsg, gName, gSub, tBM, tBM0, tNext, tB, tNot, tAnd, tOr, tIf, tCall, tDrop, tBreak, tCont, L2.start, tDGet, sDPut, tTup, tLst, tDNewK, tRevL, rCat, rAppend, rPop, rSetL, tAndV, tOrV, tNotV, tSl, tPart, tNoPart, tM1, gTup, gCons, gNil, cxK, cxnK, List.map_cons, List.map_nil, List.length_cons, List.length_nil, List.replicate, List.cons_append, List.nil_append, List.append_nil, List.set_cons_zero, List.set_cons_succ, List.getElem?_cons_zero, List.getElem?_cons_succ, Option.some.injEq, V.ref.injEq, V.int.injEq, V.str.injEq, V.bl.injEq, V.ty.injEq, exists_eq_left', exists_eq_left, exists_and_left, List.cons.injEq, and_true, true_and, sc_ii, sc_ss, sc_bb, sc_ni, sc_in, sc_is, sc_si, sc_nn, decide_true, decide_false, reduceCtorEq, Bool.false_eq_true, if_true, if_false, ite_true, ite_false, exists_const, eq_self, false_and, and_false, or_false, false_or, exists_false, Evl.rLenS, rSum, wipe, tYes, exists_eq, exists_eq', rIxL, rIxT, rIxS, exists_and_right, gt_iff_lt, not_true_eq_false, not_false_eq_true, Bool.not_true, Bool.not_false, decide_eq_true_eq, Nat.reduceSub, Nat.reduceAdd, List.append_assoc, tChain, tDIn, tDNotIn, sDDel, tAug, ipI, rRep]
    obtain ⟨z0, r0, ez0⟩ : ∃ z r, zs = z :: r := by
      cases zs with
      | nil => exact absurd rfl zne
      | cons z r => exact ⟨z, r, rfl⟩
    have hz0 : z0 ∈ zs := by rw [ez0]; simp
    obtain ⟨kvs, l, xs, hd1, ev, hl, hcl⟩ := hrw.get nd hz0
    have one : (1 : Nat) ≤ sizeLine := by rw [sizeLine_eq]; decide
    refine ⟨_, sq_l hn, .str z0, atI_of (by decide) (by rw [ez0]; rfl), _, ev ▸ DGet.k (k := Sum.inr z0) hd1, l, rfl, xs, .inl (sq_l hl), one, fun p np => ⟨_, upd_same, ?_⟩⟩
    rw [hcl.1, Int.toNat_natCast]
    refine ⟨by omega, by omega, by rw [sizeLine_eq]; show 1 * m ≤ _; omega, fun p1 np1 => ⟨one, fun p2 np2 => ?_⟩⟩
    rw [rep_flatI] at np2 ⊢
    have kA := (Kp.new (S := []) np (o := .lst [.int 2])).trans (Kp.new np1 (o := .lst ((List.replicate m (2 : Int)).map V.int)))
    have kB := kA.trans (Kp.new np2 (o := .lst [.int 840]))
    refine ⟨.inl ⟨by omega, by omega⟩, .inl ⟨by omega, by omega⟩, _, .inl (sq_l (kB _ _ not0 hn)), ?_⟩
    rw [List.length_map, show (2 * ((m : Nat) : Int) + 2 * ((m : Nat) : Int) * ((zs.length : Nat) : Int) + 1) = ((2 * m + 2 * m * zs.length + 1 : Nat) : Int) by push_cast; rfl, Int.toNat_natCast]
    have mz : 2 * m * zs.length ≤ 20 * 6 := Nat.mul_le_mul (by omega) z6
    generalize hNn : 2 * m + 2 * m * zs.length + 1 = N at *
    refine ⟨.inl ⟨by omega, by omega⟩, _, upd_same, by omega, by omega, by rw [sizeLine_eq]; show 1 * N ≤ _; omega, fun p3 np3 => ?_⟩
    rw [rep_flatI]
    have k3 : Kp [] H (upd (upd (upd (upd H p (.lst [.int 2])) p1 (.lst ((List.replicate m (2 : Int)).map V.int))) p2 (.lst [.int 840])) p3 (.lst ((List.replicate N (840 : Int)).map V.int))) := kB.trans (Kp.new np3)
    have h31 : (upd (upd (upd (upd H p (.lst [.int 2])) p1 (.lst ((List.replicate m (2 : Int)).map V.int))) p2 (.lst [.int 840])) p3 (.lst ((List.replicate N (840 : Int)).map V.int))) p1 = some (.lst ((List.replicate m (2 : Int)).map V.int)) := ((Kp.new np2).trans (Kp.new np3)) _ _ not0 upd_same
    have h33 : (upd (upd (upd (upd H p (.lst [.int 2])) p1 (.lst ((List.replicate m (2 : Int)).map V.int))) p2 (.lst [.int 840])) p3 (.lst ((List.replicate N (840 : Int)).map V.int))) p3 = some (.lst ((List.replicate N (840 : Int)).map V.int)) := upd_same
    generalize upd (upd (upd (upd H p (.lst [.int 2])) p1 (.lst ((List.replicate m (2 : Int)).map V.int))) p2 (.lst [.int 840])) p3 (.lst ((List.replicate N (840 : Int)).map V.int)) = H3 at k3 h31 h33 ⊢
    refine ⟨_, h31, _, h33, by rw [List.length_map, List.length_map, List.length_replicate, List.length_replicate]; exact Nat.le_of_lt (smallL (by omega)), fun p4 np4 => ?_⟩
    have k4 := k3.trans (Kp.new np4 (o := .lst ((List.replicate m (2 : Int)).map V.int ++ (List.replicate N (840 : Int)).map V.int)))
    refine ⟨a, p4, at_, ns, List.replicate m 2 ++ List.replicate N 840, rfl, ⟨k4.ls not0 hS.1, hS.2⟩, a1, by rw [upd_same, List.map_append], by simp; omega, fun b hb => ?_, fun sp ds H5 nsp hsp hd k5 => ?_⟩
    · rcases List.mem_append.mp hb with hb | hb
      · rw [(List.mem_replicate.mp hb).2]; decide
      · rw [(List.mem_replicate.mp hb).2]; decide
    have k05 := k4.trans k5
    have nsp0 : H sp = none := noneB k4 nsp
    have dlen : ds.length = m + N := by rw [hd.1]; simp
    have dget : ∀ i, i < m + N → ∃ v : Int, ds[i]? = some v ∧ 0 ≤ v ∧ v < 840 ∧ (i < m → v < 2) := fun i hi => by
      have e := List.getElem?_eq_getElem (l := ds) (i := i) (by omega)
      refine ⟨_, e, ?_⟩
      by_cases h : i < m
      · have e2 : (List.replicate m (2 : Int) ++ List.replicate N 840)[i]? = some 2 := by
          rw [List.getElem?_append_left (by simpa using h), List.getElem?_replicate, if_pos h]
        have := hd.2 i _ _ e e2
        exact ⟨this.1, by omega, fun _ => this.2⟩
      · have e2 : (List.replicate m (2 : Int) ++ List.replicate N 840)[i]? = some 840 := by
          rw [List.getElem?_append_right (by simp; omega), List.length_replicate, List.getElem?_replicate, if_pos (by omega)]
        have := hd.2 i _ _ e e2
        exact ⟨this.1, this.2, fun z => absurd z h⟩
    have dV : ∀ {i : Nat} {v : Int}, ds[i]? = some v → atI (ds.map V.int) ((i : Nat) : Int) = some (.int v) := fun {i v} e => atI_nat (by rw [List.getElem?_map, e]; rfl)
    try simp (maxSteps := 1000000) only [tSeq, tIfS, tTest, tOp, tUn, tCB, tCons, tNil, tVar, tC, rI0, rI, rU, rEq, rNe, tRet, tRetN, tAsg, gName, gSub, tBM, tBM0, tNext, tB, tNot, tAnd, tOr, tIf, tCall, tDrop, tBreak, tCont, L2.start, tDGet, sDPut, tTup, tLst, tDNewK, tRevL, rCat, rAppend, rPop, rSetL, tAndV, tOrV, tNotV, tSl, tPart, tNoPart, tM1, gTup, gCons, gNil, cxK, cxnK, List.map_cons, List.map_nil, List.length_cons, List.length_nil, List.replicate, List.cons_append, List.nil_append, List.append_nil, List.set_cons_zero, List.set_cons_succ, List.getElem?_cons_zero, List.getElem?_cons_succ, Option.some.injEq, V.ref.injEq, V.int.injEq, V.str.injEq, V.bl.injEq, V.ty.injEq, exists_eq_left', exists_eq_left, exists_and_left, List.cons.injEq, and_true, true_and, sc_ii, sc_ss, sc_bb, sc_ni, sc_in, sc_is, sc_si, sc_nn, decide_true, decide_false, reduceCtorEq, Bool.false_eq_true, if_true, if_false, ite_true, ite_false, exists_const, eq_self, false_and, and_false, or_false, false_or, exists_false, Evl.rLenS, rSum, wipe, tYes, exists_eq, exists_eq', rIxL, rIxT, rIxS, exists_and_right, gt_iff_lt, not_true_eq_false, not_false_eq_true, Bool.not_true, Bool.not_false, decide_eq_true_eq, Nat.reduceSub, Nat.reduceAdd, List.append_assoc, tChain, tDIn, tDNotIn, sDDel, tAug, ipI]
    refine ⟨by decide, fun o0 no0 => ?_⟩
    have k5o : Kp [] H5 (upd H5 o0 (.lst [])) := Kp.new no0
    have no00 : H o0 = none := noneB k05 no0
    refine forRg m (fun j σ H' => (∃ (ol : Addr) (O : List Nat) (c8 : Option V), σ = [some (.ref a), some (.int (at_ : Nat)), some (.ref nl), some (.ref rd), some (.int (s0 : Nat)), some (.int (m : Nat)), some (.ref sp), some (.ref ol), c8, none, none, none, none, none, none, none, none, none, none] ∧ H ol = none ∧ H' ol = some (.lst (O.map fun x => V.int (x : Nat))) ∧ (∀ x ∈ O, x < m) ∧ (∀ k, k < j → k ∈ O) ∧ O.length ≤ 2 * j) ∧ Kp [] H5 H') (fun R q' => ⟨_, rfl, q'⟩) (by omega) (by omega) ⟨⟨o0, [], none, rfl, no00, upd_same, (fun x h => nomatch h), fun k hk => absurd hk (by omega), Nat.le_refl _⟩, k5o⟩ ?_ ?_
    · rintro j σ H6 hj ⟨⟨ol, O, c8, rfl, nol, hol, O1, O2, O3⟩, k56⟩
      obtain ⟨v, ev, v0, _, v2⟩ := dget j (by omega)
      try simp (maxSteps := 1000000) only [tSeq, tIfS, tTest, tOp, tUn, tCB, tCons, tNil, tVar, tC, rI0, rI, rU, rEq, rNe, tRet, tRetN, tAsg, gName, gSub, tBM, tBM0, tNext, tB, tNot, tAnd, tOr, tIf, tCall, tDrop, tBreak, tCont, L2.start, tDGet, sDPut, tTup, tLst, tDNewK, tRevL, rCat, rAppend, rPop, rSetL, tAndV, tOrV, tNotV, tSl, tPart, tNoPart, tM1, gTup, gCons, gNil, cxK, cxnK, List.map_cons, List.map_nil, List.length_cons, List.length_nil, List.replicate, List.cons_append, List.nil_append, List.append_nil, List.set_cons_zero, List.set_cons_succ, List.getElem?_cons_zero, List.getElem?_cons_succ, Option.some.injEq, V.ref.injEq, V.int.injEq, V.str.injEq, V.bl.injEq, V.ty.injEq, exists_eq_left', exists_eq_left, exists_and_left, List.cons.injEq, and_true, true_and, sc_ii, sc_ss, sc_bb, sc_ni, sc_in, sc_is, sc_si, sc_nn, decide_true, decide_false, reduceCtorEq, Bool.false_eq_true, if_true, if_false, ite_true, ite_false, exists_const, eq_self, false_and, and_false, or_false, false_or, exists_false, Evl.rLenS, rSum, wipe, tYes, exists_eq, exists_eq', rIxL, rIxT, rIxS, exists_and_right, gt_iff_lt, not_true_eq_false, not_false_eq_true, Bool.not_true, Bool.not_false, decide_eq_true_eq, Nat.reduceSub, Nat.reduceAdd, List.append_assoc, tChain, tDIn, tDNotIn, sDDel, tAug, ipI, rRep]
      refine ⟨one, fun q1 nq1 => ?_⟩
      have kq1 := (Kp.new (S := []) nq1 (o := .lst [.int (j : Nat)]))
      have hsp6 := k56 _ _ not0 hsp
      refine ⟨_, sq_l (kq1 _ _ not0 hsp6), _, dV ev, _, rfl, _, upd_same, by omega, by omega, by rw [sizeLine_eq]; show 1 * (1 + v).toNat ≤ _; have := v2 hj; omega, fun q2 nq2 => ?_⟩
      rw [rep_flatI]
      have kq2 := kq1.trans (Kp.new nq2 (o := .lst ((List.replicate (1 + v).toNat (((j : Nat) : Int))).map V.int)))
      have eR : (List.replicate (1 + v).toNat (((j : Nat) : Int))).map V.int = (List.replicate (1 + v).toNat j).map fun x : Nat => V.int (x : Nat) := by rw [List.map_replicate, List.map_replicate]
      have vj := v2 hj
      refine ⟨_, kq2 _ _ not0 hol, _, upd_same, by rw [List.length_map, List.length_map, List.length_replicate]; exact Nat.le_of_lt (smallL (by omega)), fun q3 nq3 => ⟨⟨noneB ((k05.trans k56).trans kq2) nq3, O ++ List.replicate (1 + v).toNat j, by rw [upd_same, eR, List.map_append], fun x hx => ?_, fun k hk => ?_, by rw [List.length_append, List.length_replicate]; omega⟩, (k56.trans kq2).trans (Kp.new nq3)⟩⟩
      · rcases List.mem_append.mp hx with hx | hx
        · exact O1 x hx
        · rw [(List.mem_replicate.mp hx).2]; exact hj
      · by_cases z : k = j
        · exact List.mem_append_right _ (List.mem_replicate.mpr ⟨by omega, z⟩)
        · exact List.mem_append_left _ (O2 k (by omega))
    · rintro σ H6 ⟨⟨ol, O, c8, rfl, nol, hol, O1, O2, O3⟩, k56⟩
      have k06 := k05.trans k56
      have hsp6 := k56 _ _ not0 hsp
      try simp (maxSteps := 1000000) only [tSeq, tIfS, tTest, tOp, tUn, tCB, tCons, tNil, tVar, tC, rI0, rI, rU, rEq, rNe, tRet, tRetN, tAsg, gName, gSub, tBM, tBM0, tNext, tB, tNot, tAnd, tOr, tIf, tCall, tDrop, tBreak, tCont, L2.start, tDGet, sDPut, tTup, tLst, tDNewK, tRevL, rCat, rAppend, rPop, rSetL, tAndV, tOrV, tNotV, tSl, tPart, tNoPart, tM1, gTup, gCons, gNil, cxK, cxnK, List.map_cons, List.map_nil, List.length_cons, List.length_nil, List.replicate, List.cons_append, List.nil_append, List.append_nil, List.set_cons_zero, List.set_cons_succ, List.getElem?_cons_zero, List.getElem?_cons_succ, Option.some.injEq, V.ref.injEq, V.int.injEq, V.str.injEq, V.bl.injEq, V.ty.injEq, exists_eq_left', exists_eq_left, exists_and_left, List.cons.injEq, and_true, true_and, sc_ii, sc_ss, sc_bb, sc_ni, sc_in, sc_is, sc_si, sc_nn, decide_true, decide_false, reduceCtorEq, Bool.false_eq_true, if_true, if_false, ite_true, ite_false, exists_const, eq_self, false_and, and_false, or_false, false_or, exists_false, Evl.rLenS, rSum, wipe, tYes, exists_eq, exists_eq', rIxL, rIxT, rIxS, exists_and_right, gt_iff_lt, not_true_eq_false, not_false_eq_true, Bool.not_true, Bool.not_false, decide_eq_true_eq, Nat.reduceSub, Nat.reduceAdd, List.append_assoc, tChain, tDIn, tDNotIn, sDDel, tAug, ipI]
      refine ⟨_, .inl (sq_l hol), fun ll nll => ⟨by decide, fun xl nxl => ?_⟩⟩
      have kl := (Kp.new (S := []) nll (o := .lst (O.map fun x => V.int (x : Nat))))
      have kx := kl.trans (Kp.new nxl (o := .lst []))
      have nl0 : H ll = none := noneB k06 nll
      have nx6 : H6 xl = none := noneB kl nxl
      have nx0 : H xl = none := noneB k06 nx6
      have llx : ll ≠ xl := fun z => by rw [z, upd_same] at nxl; cases nxl
      have O0 : 0 < O.length := List.length_pos_of_mem (O2 0 (by omega))
      refine forRg O.length (fun k σ H' => (∃ (L M : List Nat) (c11 : Option V), σ = [some (.ref a), some (.int (at_ : Nat)), some (.ref nl), some (.ref rd), some (.int (s0 : Nat)), some (.int (m : Nat)), some (.ref sp), some (.ref ol), c8, some (.ref ll), some (.ref xl), c11, none, none, none, none, none, none, none] ∧ H' ll = some (.lst (L.map fun x => V.int (x : Nat))) ∧ H' xl = some (.lst (M.map fun x => V.int (x : Nat))) ∧ M.length = k ∧ L.length = O.length - k ∧ (∀ x ∈ L, x < m) ∧ (∀ x ∈ M, x < m) ∧ ∀ s, s < m → s ∈ L ∨ s ∈ M) ∧ Kp [] H6 H') (fun R q' => ?_) (by omega) (by omega) ⟨⟨O, [], none, rfl, by rw [upd_ne llx, upd_same], upd_same, rfl, rfl, O1, (fun x h => nomatch h), fun s hs => .inl (O2 s hs)⟩, kx⟩ ?_ ?_
      · try simp (maxSteps := 1000000) only [tSeq, tIfS, tTest, tOp, tUn, tCB, tCons, tNil, tVar, tC, rI0, rI, rU, rEq, rNe, tRet, tRetN, tAsg, gName, gSub, tBM, tBM0, tNext, tB, tNot, tAnd, tOr, tIf, tCall, tDrop, tBreak, tCont, L2.start, tDGet, sDPut, tTup, tLst, tDNewK, tRevL, rCat, rAppend, rPop, rSetL, tAndV, tOrV, tNotV, tSl, tPart, tNoPart, tM1, gTup, gCons, gNil, cxK, cxnK, List.map_cons, List.map_nil, List.length_cons, List.length_nil, List.replicate, List.cons_append, List.nil_append, List.append_nil, List.set_cons_zero, List.set_cons_succ, List.getElem?_cons_zero, List.getElem?_cons_succ, Option.some.injEq, V.ref.injEq, V.int.injEq, V.str.injEq, V.bl.injEq, V.ty.injEq, exists_eq_left', exists_eq_left, exists_and_left, List.cons.injEq, and_true, true_and, sc_ii, sc_ss, sc_bb, sc_ni, sc_in, sc_is, sc_si, sc_nn, decide_true, decide_false, reduceCtorEq, Bool.false_eq_true, if_true, if_false, ite_true, ite_false, exists_const, eq_self, false_and, and_false, or_false, false_or, exists_false, Evl.rLenS, rSum, wipe, tYes, exists_eq, exists_eq', rIxL, rIxT, rIxS, exists_and_right, gt_iff_lt, not_true_eq_false, not_false_eq_true, Bool.not_true, Bool.not_false, decide_eq_true_eq, Nat.reduceSub, Nat.reduceAdd, List.append_assoc, tChain, tDIn, tDNotIn, sDDel, tAug, ipI]
        refine ⟨_, .inl (sq_l (kx _ _ not0 hol)), ?_⟩
        rw [List.length_map]
        exact q'
      · rintro k σ H7 hk ⟨⟨L, M, c11, rfl, hL, hM, M1, L1, LB, M2, LM⟩, k67⟩
        have hsp7 := k67 _ _ not0 hsp6
        obtain ⟨v, ev, v0, v1, _⟩ := dget (m + k) (by omega)
        try simp (maxSteps := 1000000) only [tSeq, tIfS, tTest, tOp, tUn, tCB, tCons, tNil, tVar, tC, rI0, rI, rU, rEq, rNe, tRet, tRetN, tAsg, gName, gSub, tBM, tBM0, tNext, tB, tNot, tAnd, tOr, tIf, tCall, tDrop, tBreak, tCont, L2.start, tDGet, sDPut, tTup, tLst, tDNewK, tRevL, rCat, rAppend, rPop, rSetL, tAndV, tOrV, tNotV, tSl, tPart, tNoPart, tM1, gTup, gCons, gNil, cxK, cxnK, List.map_cons, List.map_nil, List.length_cons, List.length_nil, List.replicate, List.cons_append, List.nil_append, List.append_nil, List.set_cons_zero, List.set_cons_succ, List.getElem?_cons_zero, List.getElem?_cons_succ, Option.some.injEq, V.ref.injEq, V.int.injEq, V.str.injEq, V.bl.injEq, V.ty.injEq, exists_eq_left', exists_eq_left, exists_and_left, List.cons.injEq, and_true, true_and, sc_ii, sc_ss, sc_bb, sc_ni, sc_in, sc_is, sc_si, sc_nn, decide_true, decide_false, reduceCtorEq, Bool.false_eq_true, if_true, if_false, ite_true, ite_false, exists_const, eq_self, false_and, and_false, or_false, false_or, exists_false, Evl.rLenS, rSum, wipe, tYes, exists_eq, exists_eq', rIxL, rIxT, rIxS, exists_and_right, gt_iff_lt, not_true_eq_false, not_false_eq_true, Bool.not_true, Bool.not_false, decide_eq_true_eq, Nat.reduceSub, Nat.reduceAdd, List.append_assoc, tChain, tDIn, tDNotIn, sDDel, tAug, ipI]
        have em := dV ev
        rw [show ((m + k : Nat) : Int) = (m : Nat) + (k : Nat) by push_cast; rfl] at em
        refine ⟨.inl ⟨rfl, _, sq_l hM⟩, .inl ⟨rfl, _, sq_l hL⟩, _, sq_l hsp7, _, em, ?_⟩
        try simp (maxSteps := 1000000) only [tSeq, tIfS, tTest, tOp, tUn, tCB, tCons, tNil, tVar, tC, rI0, rI, rU, rEq, rNe, tRet, tRetN, tAsg, gName, gSub, tBM, tBM0, tNext, tB, tNot, tAnd, tOr, tIf, tCall, tDrop, tBreak, tCont, L2.start, tDGet, sDPut, tTup, tLst, tDNewK, tRevL, rCat, rAppend, rPop, rSetL, tAndV, tOrV, tNotV, tSl, tPart, tNoPart, tM1, gTup, gCons, gNil, cxK, cxnK, List.map_cons, List.map_nil, List.length_cons, List.length_nil, List.replicate, List.cons_append, List.nil_append, List.append_nil, List.set_cons_zero, List.set_cons_succ, List.getElem?_cons_zero, List.getElem?_cons_succ, Option.some.injEq, V.ref.injEq, V.int.injEq, V.str.injEq, V.bl.injEq, V.ty.injEq, exists_eq_left', exists_eq_left, exists_and_left, List.cons.injEq, and_true, true_and, sc_ii, sc_ss, sc_bb, sc_ni, sc_in, sc_is, sc_si, sc_nn, decide_true, decide_false, reduceCtorEq, Bool.false_eq_true, if_true, if_false, ite_true, ite_false, exists_const, eq_self, false_and, and_false, or_false, false_or, exists_false, Evl.rLenS, rSum, wipe, tYes, exists_eq, exists_eq', rIxL, rIxT, rIxS, exists_and_right, gt_iff_lt, not_true_eq_false, not_false_eq_true, Bool.not_true, Bool.not_false, decide_eq_true_eq, Nat.reduceSub, Nat.reduceAdd, List.append_assoc, tChain, tDIn, tDNotIn, sDDel, tAug, ipI, rIv_int]
        refine ⟨_, .inl (sq_l hL), ?_⟩
        rw [List.length_map, L1]
        have mn := Int.emod_nonneg v (show (((O.length - k : Nat)) : Int) ≠ 0 by omega)
        have ml := Int.emod_lt_of_pos v (show (0 : Int) < ((O.length - k : Nat)) by omega)
        generalize v % (((O.length - k : Nat)) : Int) = ix at mn ml
        have il : ix.toNat < L.length := by omega
        have eL := List.getElem?_eq_getElem il
        generalize L[ix.toNat] = y at eL
        have yL := List.mem_of_getElem? eL
        have hM' : (upd H7 ll (.lst ((L.eraseIdx ix.toNat).map fun x => V.int (x : Nat)))) xl = some (.lst (M.map fun x => V.int (x : Nat))) := by rw [upd_ne (Ne.symm llx)]; exact hM
        refine ⟨by omega, ll, _, ix, ix.toNat, .int (y : Nat), rfl, rfl, hL, by omega, by omega, seqIndex_of mn (by rw [List.length_map]; omega), by rw [List.getElem?_map, eL]; rfl, ?_⟩
        rw [eraseMap]
        refine ⟨_, hM', smallL (by rw [List.length_map]; omega), ⟨L.eraseIdx ix.toNat, by rw [upd_ne llx, upd_same], M ++ [y], by rw [upd_same, List.map_append]; rfl, by rw [List.length_append, M1]; rfl, by rw [List.length_eraseIdx_of_lt il]; omega, fun x hx => LB x (List.mem_of_mem_eraseIdx hx), fun x hx => ?_, fun s hs => ?_⟩, (k67.wr nll).wr nx6⟩
        · rcases List.mem_append.mp hx with hx | hx
          · exact M2 x hx
          · rw [List.mem_singleton.mp hx]; exact LB y yL
        · rcases LM s hs with h | h
          · by_cases z : s = y
            · exact .inr (List.mem_append_right _ (List.mem_singleton.mpr z))
            · left
              obtain ⟨i, ei⟩ := List.getElem?_of_mem h
              refine List.mem_eraseIdx_iff_getElem?.mpr ⟨i, fun zz => ?_, ei⟩
              rw [zz, eL] at ei
              exact z (Option.some.inj ei).symm
          · exact .inr (List.mem_append_left _ h)
      · rintro σ H7 ⟨⟨L, M, c11, rfl, hL, hM, M1, L1, LB, M2, LM⟩, k67⟩
        have hsp7 := k67 _ _ not0 hsp6
        have k07 := k06.trans k67
        have n20 : O.length ≤ 20 := by omega
        have hLM : ∀ s, s < m → s ∈ M := fun s hs => by
          rcases LM s hs with h | h
          · have : L = [] := List.eq_nil_of_length_eq_zero (by omega)
            rw [this] at h
            cases h
          · exact h
        have Mget : ∀ i, i < O.length → ∃ s, M[i]? = some s ∧ s < m := fun i hi => by
          have e := List.getElem?_eq_getElem (l := M) (i := i) (by omega)
          exact ⟨_, e, M2 _ (List.mem_of_getElem? e)⟩
        try simp (maxSteps := 1000000) only [tSeq, tIfS, tTest, tOp, tUn, tCB, tCons, tNil, tVar, tC, rI0, rI, rU, rEq, rNe, tRet, tRetN, tAsg, gName, gSub, tBM, tBM0, tNext, tB, tNot, tAnd, tOr, tIf, tCall, tDrop, tBreak, tCont, L2.start, tDGet, sDPut, tTup, tLst, tDNewK, tRevL, rCat, rAppend, rPop, rSetL, tAndV, tOrV, tNotV, tSl, tPart, tNoPart, tM1, gTup, gCons, gNil, cxK, cxnK, List.map_cons, List.map_nil, List.length_cons, List.length_nil, List.replicate, List.cons_append, List.nil_append, List.append_nil, List.set_cons_zero, List.set_cons_succ, List.getElem?_cons_zero, List.getElem?_cons_succ, Option.some.injEq, V.ref.injEq, V.int.injEq, V.str.injEq, V.bl.injEq, V.ty.injEq, exists_eq_left', exists_eq_left, exists_and_left, List.cons.injEq, and_true, true_and, sc_ii, sc_ss, sc_bb, sc_ni, sc_in, sc_is, sc_si, sc_nn, decide_true, decide_false, reduceCtorEq, Bool.false_eq_true, if_true, if_false, ite_true, ite_false, exists_const, eq_self, false_and, and_false, or_false, false_or, exists_false, Evl.rLenS, rSum, wipe, tYes, exists_eq, exists_eq', rIxL, rIxT, rIxS, exists_and_right, gt_iff_lt, not_true_eq_false, not_false_eq_true, Bool.not_true, Bool.not_false, decide_eq_true_eq, Nat.reduceSub, Nat.reduceAdd, List.append_assoc, tChain, tDIn, tDNotIn, sDDel, tAug, ipI]
        refine ⟨.inl ⟨by omega, by omega⟩, fun r nr => ?_⟩
        have kr := (Kp.new (S := []) nr (o := .dK []))
        have hn7 := k07 _ _ not0 hn
        have nr0 : H r = none := noneB k07 nr
        have zl : zs.length ≤ 6 := z6
        refine ⟨.ref nl, rfl, nl, rfl, ⟨_, sq_l (kr _ _ not0 hn7)⟩, for_list (K := K) (a := nl) (xs := zs.map V.str) (fun i σ H' => (∃ (c8 c14 c15 c16 c17 c18 : Option V) (u : Nat), σ = [some (.ref a), some (.int (at_ : Nat)), some (.ref nl), some (.ref rd), some (.int (s0 : Nat)), some (.int (m : Nat)), some (.ref sp), some (.ref ol), c8, some (.ref ll), some (.ref xl), c11, some (.int (u : Nat)), some (.ref r), c14, c15, c16, c17, c18] ∧ u = 3 * m + i * O.length) ∧ (∃ c', RwL H H' r (zs.take i) O.length c' ∧ CellB (zs.take i) O.length 10 c' ∧ CopyOk (zs.take i) c c' O.length M) ∧ Kp [] H7 H') ⟨⟨_, _, _, _, _, _, 3 * m, rfl, by omega⟩, ⟨c, ⟨⟨[], upd_same, rfl, fun i z e => by cases e⟩, [], [], upd_same, rfl, List.nodup_nil, fun l hl => nomatch hl⟩, (fun z hz => nomatch hz), fun z hz => nomatch hz⟩, kr⟩ (fun i σ H' _ h => (k07.trans h.2.2).ls not0 (sq_l hn)) ?_ ?_⟩
        · rintro i x σ H8 hx ⟨⟨c8, c14, c15, c16, c17, c18, u, rfl, rfl⟩, ⟨c', hrwL8, hb8, hcp8⟩, k78⟩
          obtain ⟨z, ez, rfl⟩ : ∃ z, zs[i]? = some z ∧ V.str z = x := by
            rw [List.getElem?_map] at hx
            cases e : zs[i]? with
            | none => rw [e] at hx; cases hx
            | some z => rw [e] at hx; exact ⟨z, rfl, Option.some.inj hx⟩
          have hz := List.mem_of_getElem? ez
          have il : i < zs.length := (List.getElem?_eq_some_iff.mp ez).1
          have k08 := k07.trans k78
          have hrw8 := hrwL8.1
          try simp (maxSteps := 1000000) only [tSeq, tIfS, tTest, tOp, tUn, tCB, tCons, tNil, tVar, tC, rI0, rI, rU, rEq, rNe, tRet, tRetN, tAsg, gName, gSub, tBM, tBM0, tNext, tB, tNot, tAnd, tOr, tIf, tCall, tDrop, tBreak, tCont, L2.start, tDGet, sDPut, tTup, tLst, tDNewK, tRevL, rCat, rAppend, rPop, rSetL, tAndV, tOrV, tNotV, tSl, tPart, tNoPart, tM1, gTup, gCons, gNil, cxK, cxnK, List.map_cons, List.map_nil, List.length_cons, List.length_nil, List.replicate, List.cons_append, List.nil_append, List.append_nil, List.set_cons_zero, List.set_cons_succ, List.getElem?_cons_zero, List.getElem?_cons_succ, Option.some.injEq, V.ref.injEq, V.int.injEq, V.str.injEq, V.bl.injEq, V.ty.injEq, exists_eq_left', exists_eq_left, exists_and_left, List.cons.injEq, and_true, true_and, sc_ii, sc_ss, sc_bb, sc_ni, sc_in, sc_is, sc_si, sc_nn, decide_true, decide_false, reduceCtorEq, Bool.false_eq_true, if_true, if_false, ite_true, ite_false, exists_const, eq_self, false_and, and_false, or_false, false_or, exists_false, Evl.rLenS, rSum, wipe, tYes, exists_eq, exists_eq', rIxL, rIxT, rIxS, exists_and_right, gt_iff_lt, not_true_eq_false, not_false_eq_true, Bool.not_true, Bool.not_false, decide_eq_true_eq, Nat.reduceSub, Nat.reduceAdd, List.append_assoc, tChain, tDIn, tDNotIn, sDDel, tAug, ipI]
          refine ⟨by decide, fun rl nrl => ?_⟩
          have krl := (Kp.new (S := []) nrl (o := .lst []))
          have hM8 := k78 _ _ not0 hM
          have nrl0 : H rl = none := noneB k08 nrl
          refine ⟨.ref xl, rfl, xl, rfl, ⟨_, sq_l (krl _ _ not0 hM8)⟩, for_list (K := K) (a := xl) (xs := M.map fun x => V.int (x : Nat)) (fun j σ H' => (∃ (c8 c16 c17 c18 : Option V) (u : Nat), σ = [some (.ref a), some (.int (at_ : Nat)), some (.ref nl), some (.ref rd), some (.int (s0 : Nat)), some (.int (m : Nat)), some (.ref sp), some (.ref ol), c8, some (.ref ll), some (.ref xl), c11, some (.int (u : Nat)), some (.ref r), some (.str z), some (.ref rl), c16, c17, c18] ∧ u = 3 * m + i * O.length + j) ∧ (∃ (xs : List V) (g : Nat → Int × Int), H' rl = some (.lst xs) ∧ Cells g xs j H' ∧ ∀ s, s < j → ((0 ≤ (g s).1 ∧ (g s).1 < 10) ∧ 0 ≤ (g s).2 ∧ (g s).2 < O.length) ∧ (g s).1 = (c z (M.getD s 0)).1 ∧ M.getD (g s).2.toNat 0 = nx c z (M.getD s 0)) ∧ Kp [] H8 H') ⟨⟨_, _, _, _, _, rfl, rfl⟩, ⟨[], fun _ => (0, 0), upd_same, ⟨rfl, fun i hi => absurd hi (by omega)⟩, fun s hs => absurd hs (by omega)⟩, krl⟩ (fun j σ H' _ h => h.2.2.ls not0 (sq_l hM8)) ?_ ?_⟩
          · rintro j x σ H9 hx ⟨⟨c8, c16, c17, c18, u, rfl, rfl⟩, ⟨xs9, g, hrl, hC, hg⟩, k89⟩
            obtain ⟨s, es, rfl⟩ : ∃ s, M[j]? = some s ∧ V.int (s : Nat) = x := by
              rw [List.getElem?_map] at hx
              cases e : M[j]? with
              | none => rw [e] at hx; cases hx
              | some z => rw [e] at hx; exact ⟨z, rfl, Option.some.inj hx⟩
            have sm := M2 s (List.mem_of_getElem? es)
            have jl : j < M.length := (List.getElem?_eq_some_iff.mp es).1
            have k09 := k08.trans k89
            obtain ⟨kv, l9, xs, hd9, ev9, hl9, hc9⟩ := (hrw.kp k09).get nd hz
            obtain ⟨pr, epr, hpr⟩ := hc9.2 s sm
            obtain ⟨⟨b1, b2⟩, b3, b4⟩ := hb z hz s sm
            have hM9 := k89 _ _ not0 hM8
            try simp (maxSteps := 1000000) only [tSeq, tIfS, tTest, tOp, tUn, tCB, tCons, tNil, tVar, tC, rI0, rI, rU, rEq, rNe, tRet, tRetN, tAsg, gName, gSub, tBM, tBM0, tNext, tB, tNot, tAnd, tOr, tIf, tCall, tDrop, tBreak, tCont, L2.start, tDGet, sDPut, tTup, tLst, tDNewK, tRevL, rCat, rAppend, rPop, rSetL, tAndV, tOrV, tNotV, tSl, tPart, tNoPart, tM1, gTup, gCons, gNil, cxK, cxnK, List.map_cons, List.map_nil, List.length_cons, List.length_nil, List.replicate, List.cons_append, List.nil_append, List.append_nil, List.set_cons_zero, List.set_cons_succ, List.getElem?_cons_zero, List.getElem?_cons_succ, Option.some.injEq, V.ref.injEq, V.int.injEq, V.str.injEq, V.bl.injEq, V.ty.injEq, exists_eq_left', exists_eq_left, exists_and_left, List.cons.injEq, and_true, true_and, sc_ii, sc_ss, sc_bb, sc_ni, sc_in, sc_is, sc_si, sc_nn, decide_true, decide_false, reduceCtorEq, Bool.false_eq_true, if_true, if_false, ite_true, ite_false, exists_const, eq_self, false_and, and_false, or_false, false_or, exists_false, Evl.rLenS, rSum, wipe, tYes, exists_eq, exists_eq', rIxL, rIxT, rIxS, exists_and_right, gt_iff_lt, not_true_eq_false, not_false_eq_true, Bool.not_true, Bool.not_false, decide_eq_true_eq, Nat.reduceSub, Nat.reduceAdd, List.append_assoc, tChain, tDIn, tDNotIn, sDDel, tAug, ipI]
            refine ⟨_, ev9 ▸ DGet.k (k := Sum.inr z) hd9, l9, rfl, _, sq_l hl9, .ref pr, atI_nat epr, ?_⟩
            refine lcRgN O.length (by omega) (fun o i H' => ∃ js : List Nat, H' o = some (.lst (js.map fun x => V.int (x : Nat))) ∧ js.length ≤ i ∧ (∀ j ∈ js, j < O.length ∧ ((M.getD j 0 : Nat) : Int) = (c z s).2) ∧ (∀ k s', k < i → M[k]? = some s' → ((s' : Nat) : Int) = (c z s).2 → js ≠ []) ∧ Kp [] H9 H') (fun R q' => ?_) (fun o no => ⟨[], upd_same, Nat.le_refl _, (fun x h => nomatch h), fun k s' hk => absurd hk (by omega), Kp.new no⟩) ?_ ?_
            · try simp (maxSteps := 1000000) only [tSeq, tIfS, tTest, tOp, tUn, tCB, tCons, tNil, tVar, tC, rI0, rI, rU, rEq, rNe, tRet, tRetN, tAsg, gName, gSub, tBM, tBM0, tNext, tB, tNot, tAnd, tOr, tIf, tCall, tDrop, tBreak, tCont, L2.start, tDGet, sDPut, tTup, tLst, tDNewK, tRevL, rCat, rAppend, rPop, rSetL, tAndV, tOrV, tNotV, tSl, tPart, tNoPart, tM1, gTup, gCons, gNil, cxK, cxnK, List.map_cons, List.map_nil, List.length_cons, List.length_nil, List.replicate, List.cons_append, List.nil_append, List.append_nil, List.set_cons_zero, List.set_cons_succ, List.getElem?_cons_zero, List.getElem?_cons_succ, Option.some.injEq, V.ref.injEq, V.int.injEq, V.str.injEq, V.bl.injEq, V.ty.injEq, exists_eq_left', exists_eq_left, exists_and_left, List.cons.injEq, and_true, true_and, sc_ii, sc_ss, sc_bb, sc_ni, sc_in, sc_is, sc_si, sc_nn, decide_true, decide_false, reduceCtorEq, Bool.false_eq_true, if_true, if_false, ite_true, ite_false, exists_const, eq_self, false_and, and_false, or_false, false_or, exists_false, Evl.rLenS, rSum, wipe, tYes, exists_eq, exists_eq', rIxL, rIxT, rIxS, exists_and_right, gt_iff_lt, not_true_eq_false, not_false_eq_true, Bool.not_true, Bool.not_false, decide_eq_true_eq, Nat.reduceSub, Nat.reduceAdd, List.append_assoc, tChain, tDIn, tDNotIn, sDDel, tAug, ipI]
              refine ⟨_, .inl (sq_l hM9), ?_⟩
              rw [List.length_map, M1]
              exact q'
            · rintro o i' H' no hi' ⟨js, hjs, jl1, jl2, jl3, k9'⟩
              obtain ⟨s', es', sm'⟩ := Mget i' hi'
              try simp (maxSteps := 1000000) only [tSeq, tIfS, tTest, tOp, tUn, tCB, tCons, tNil, tVar, tC, rI0, rI, rU, rEq, rNe, tRet, tRetN, tAsg, gName, gSub, tBM, tBM0, tNext, tB, tNot, tAnd, tOr, tIf, tCall, tDrop, tBreak, tCont, L2.start, tDGet, sDPut, tTup, tLst, tDNewK, tRevL, rCat, rAppend, rPop, rSetL, tAndV, tOrV, tNotV, tSl, tPart, tNoPart, tM1, gTup, gCons, gNil, cxK, cxnK, List.map_cons, List.map_nil, List.length_cons, List.length_nil, List.replicate, List.cons_append, List.nil_append, List.append_nil, List.set_cons_zero, List.set_cons_succ, List.getElem?_cons_zero, List.getElem?_cons_succ, Option.some.injEq, V.ref.injEq, V.int.injEq, V.str.injEq, V.bl.injEq, V.ty.injEq, exists_eq_left', exists_eq_left, exists_and_left, List.cons.injEq, and_true, true_and, sc_ii, sc_ss, sc_bb, sc_ni, sc_in, sc_is, sc_si, sc_nn, decide_true, decide_false, reduceCtorEq, Bool.false_eq_true, if_true, if_false, ite_true, ite_false, exists_const, eq_self, false_and, and_false, or_false, false_or, exists_false, Evl.rLenS, rSum, wipe, tYes, exists_eq, exists_eq', rIxL, rIxT, rIxS, exists_and_right, gt_iff_lt, not_true_eq_false, not_false_eq_true, Bool.not_true, Bool.not_false, decide_eq_true_eq, Nat.reduceSub, Nat.reduceAdd, List.append_assoc, tChain, tDIn, tDNotIn, sDDel, tAug, ipI]
              refine ⟨_, sq_l (k9' _ _ not0 hM9), .int (s' : Nat), atI_nat (by rw [List.getElem?_map, es']; rfl), _, sq_t (k9' _ _ not0 hpr), .int (c z s).2, rfl, rfl, ?_⟩
              by_cases e : ((s' : Nat) : Int) = (c z s).2
              · rw [if_pos (by rw [e])]
                refine ⟨_, hjs, smallL (by rw [List.length_map]; omega), js ++ [i'], by rw [upd_same, List.map_append]; rfl, by rw [List.length_append, List.length_singleton]; omega, fun x hx => ?_, fun k s' _ _ _ => by simp, k9'.wr no⟩
                rcases List.mem_append.mp hx with hx | hx
                · exact jl2 x hx
                · rw [List.mem_singleton.mp hx]; exact ⟨hi', by rw [List.getD_eq_getElem?_getD, es']; exact e⟩
              · rw [if_neg (fun z => e (by injection z))]
                refine ⟨js, hjs, by omega, jl2, fun k s'' hk ek e2 => ?_, k9'⟩
                by_cases z : k = i'
                · subst z
                  rw [es'] at ek
                  cases ek
                  exact absurd e2 e
                · exact jl3 k s'' (by omega) ek e2
            · rintro o H' no ⟨js, hjs, jl1, jl2, jl3, k9'⟩
              have jne : js ≠ [] := by
                have hin := hLM (c z s).2.toNat (by omega)
                obtain ⟨k, ek⟩ := List.getElem?_of_mem hin
                exact jl3 k _ (by rw [← M1]; exact (List.getElem?_eq_some_iff.mp ek).1) ek (by omega)
              have jpos : 0 < js.length := List.length_pos_iff.mpr jne
              have uz : (i + 1) * O.length ≤ zs.length * (2 * m) := Nat.mul_le_mul il O3
              rw [Nat.add_mul, Nat.one_mul, Nat.mul_comm zs.length] at uz
              obtain ⟨v, evv, v0, v1, _⟩ := dget (3 * m + i * O.length + j) (by omega)
              have hrl' := k9' _ _ not0 hrl
              have hsp' := (k89.trans k9') _ _ not0 (k78 _ _ not0 hsp7)
              have two : (2 : Nat) ≤ sizeLine := by rw [sizeLine_eq]; decide
              try simp (maxSteps := 1000000) only [tSeq, tIfS, tTest, tOp, tUn, tCB, tCons, tNil, tVar, tC, rI0, rI, rU, rEq, rNe, tRet, tRetN, tAsg, gName, gSub, tBM, tBM0, tNext, tB, tNot, tAnd, tOr, tIf, tCall, tDrop, tBreak, tCont, L2.start, tDGet, sDPut, tTup, tLst, tDNewK, tRevL, rCat, rAppend, rPop, rSetL, tAndV, tOrV, tNotV, tSl, tPart, tNoPart, tM1, gTup, gCons, gNil, cxK, cxnK, List.map_cons, List.map_nil, List.length_cons, List.length_nil, List.replicate, List.cons_append, List.nil_append, List.append_nil, List.set_cons_zero, List.set_cons_succ, List.getElem?_cons_zero, List.getElem?_cons_succ, Option.some.injEq, V.ref.injEq, V.int.injEq, V.str.injEq, V.bl.injEq, V.ty.injEq, exists_eq_left', exists_eq_left, exists_and_left, List.cons.injEq, and_true, true_and, sc_ii, sc_ss, sc_bb, sc_ni, sc_in, sc_is, sc_si, sc_nn, decide_true, decide_false, reduceCtorEq, Bool.false_eq_true, if_true, if_false, ite_true, ite_false, exists_const, eq_self, false_and, and_false, or_false, false_or, exists_false, Evl.rLenS, rSum, wipe, tYes, exists_eq, exists_eq', rIxL, rIxT, rIxS, exists_and_right, gt_iff_lt, not_true_eq_false, not_false_eq_true, Bool.not_true, Bool.not_false, decide_eq_true_eq, Nat.reduceSub, Nat.reduceAdd, List.append_assoc, tChain, tDIn, tDNotIn, sDDel, tAug, ipI]
              refine ⟨.inl ⟨rfl, _, sq_l hrl'⟩, _, sq_t (k9' _ _ not0 hpr), .int (c z s).1, rfl, _, sq_l hsp', _, dV evv, ?_⟩
              try simp (maxSteps := 1000000) only [tSeq, tIfS, tTest, tOp, tUn, tCB, tCons, tNil, tVar, tC, rI0, rI, rU, rEq, rNe, tRet, tRetN, tAsg, gName, gSub, tBM, tBM0, tNext, tB, tNot, tAnd, tOr, tIf, tCall, tDrop, tBreak, tCont, L2.start, tDGet, sDPut, tTup, tLst, tDNewK, tRevL, rCat, rAppend, rPop, rSetL, tAndV, tOrV, tNotV, tSl, tPart, tNoPart, tM1, gTup, gCons, gNil, cxK, cxnK, List.map_cons, List.map_nil, List.length_cons, List.length_nil, List.replicate, List.cons_append, List.nil_append, List.append_nil, List.set_cons_zero, List.set_cons_succ, List.getElem?_cons_zero, List.getElem?_cons_succ, Option.some.injEq, V.ref.injEq, V.int.injEq, V.str.injEq, V.bl.injEq, V.ty.injEq, exists_eq_left', exists_eq_left, exists_and_left, List.cons.injEq, and_true, true_and, sc_ii, sc_ss, sc_bb, sc_ni, sc_in, sc_is, sc_si, sc_nn, decide_true, decide_false, reduceCtorEq, Bool.false_eq_true, if_true, if_false, ite_true, ite_false, exists_const, eq_self, false_and, and_false, or_false, false_or, exists_false, Evl.rLenS, rSum, wipe, tYes, exists_eq, exists_eq', rIxL, rIxT, rIxS, exists_and_right, gt_iff_lt, not_true_eq_false, not_false_eq_true, Bool.not_true, Bool.not_false, decide_eq_true_eq, Nat.reduceSub, Nat.reduceAdd, List.append_assoc, tChain, tDIn, tDNotIn, sDDel, tAug, ipI, rIv_int]
              refine ⟨_, .inl (sq_l hjs), ?_⟩
              rw [List.length_map]
              have mn := Int.emod_nonneg v (show ((js.length : Nat) : Int) ≠ 0 by omega)
              have ml := Int.emod_lt_of_pos v (show (0 : Int) < (js.length : Nat) by omega)
              have ej := List.getElem?_eq_getElem (l := js) (i := (v % ((js.length : Nat) : Int)).toNat) (by omega)
              generalize js[(v % ((js.length : Nat) : Int)).toNat] = y at ej
              obtain ⟨yn, ym⟩ := jl2 y (List.mem_of_getElem? ej)
              refine ⟨by omega, _, sq_l hjs, .int (y : Nat), atI_of mn (by rw [List.getElem?_map, ej]; rfl), two, fun p np => ?_⟩
              have kp := (Kp.new np : Kp [] H' (upd H' p (.tup [.int (c z s).1, .int (y : Nat)])))
              have hrl2 := kp _ _ not0 hrl'
              refine ⟨xs9, hrl2, smallL (by rw [hC.1]; omega), ⟨_, _, _, _, 3 * m + i * O.length + (j + 1), ⟨rfl, by omega, rfl, rfl, rfl⟩, rfl⟩, ⟨_, upd_same, fun s' => if s' = j then ((c z s).1, ((y : Nat) : Int)) else g s', ?_, fun s' hs' => ?_⟩, ((k89.trans k9').trans kp).wr nrl⟩
              · refine Cells.putL (Cells.snoc (Cells.congr ((hC.kp k9').kp kp) fun s' hs' => ?_) ?_) hrl2
                · rw [if_neg (by omega)]
                · rw [upd_same, if_pos rfl]
              · dsimp only
                by_cases z : s' = j
                · rw [if_pos z]
                  have esD : M.getD s' 0 = s := by rw [z, List.getD_eq_getElem?_getD, es]; rfl
                  rw [esD]
                  refine ⟨⟨⟨b1, b2⟩, by show (0 : Int) ≤ (y : Nat); omega, by show ((y : Nat) : Int) < _; omega⟩, rfl, ?_⟩
                  show M.getD (Int.toNat (y : Nat)) 0 = _
                  rw [Int.toNat_natCast]
                  unfold nx
                  omega
                · rw [if_neg z]
                  exact hg s' (by omega)
          · rintro σ H9 ⟨⟨c8, c16, c17, c18, u, rfl, rfl⟩, ⟨xs9, g, hrl, hC, hg⟩, k89⟩
            rw [List.length_map, M1] at hC hg
            have hput := (RwAt.congr (c' := fun y s => if y = z then g s else c' y s) hrw8 (fun y hy s hs => by rw [if_neg (fun e => nd_fresh nd ez (by rw [← e]; exact hy))])).put (z := z) (xs := xs9) k89 (nd_fresh nd ez) hrl (Cells.congr hC fun s hs => by rw [if_pos rfl])
            obtain ⟨kvs, hr9, hl9, hput, hrw9⟩ := hput
            try simp (maxSteps := 1000000) only [tSeq, tIfS, tTest, tOp, tUn, tCB, tCons, tNil, tVar, tC, rI0, rI, rU, rEq, rNe, tRet, tRetN, tAsg, gName, gSub, tBM, tBM0, tNext, tB, tNot, tAnd, tOr, tIf, tCall, tDrop, tBreak, tCont, L2.start, tDGet, sDPut, tTup, tLst, tDNewK, tRevL, rCat, rAppend, rPop, rSetL, tAndV, tOrV, tNotV, tSl, tPart, tNoPart, tM1, gTup, gCons, gNil, cxK, cxnK, List.map_cons, List.map_nil, List.length_cons, List.length_nil, List.replicate, List.cons_append, List.nil_append, List.append_nil, List.set_cons_zero, List.set_cons_succ, List.getElem?_cons_zero, List.getElem?_cons_succ, Option.some.injEq, V.ref.injEq, V.int.injEq, V.str.injEq, V.bl.injEq, V.ty.injEq, exists_eq_left', exists_eq_left, exists_and_left, List.cons.injEq, and_true, true_and, sc_ii, sc_ss, sc_bb, sc_ni, sc_in, sc_is, sc_si, sc_nn, decide_true, decide_false, reduceCtorEq, Bool.false_eq_true, if_true, if_false, ite_true, ite_false, exists_const, eq_self, false_and, and_false, or_false, false_or, exists_false, Evl.rLenS, rSum, wipe, tYes, exists_eq, exists_eq', rIxL, rIxT, rIxS, exists_and_right, gt_iff_lt, not_true_eq_false, not_false_eq_true, Bool.not_true, Bool.not_false, decide_eq_true_eq, Nat.reduceSub, Nat.reduceAdd, List.append_assoc, tChain, tDIn, tDNotIn, sDDel, tAug, ipI]
            obtain ⟨_, kvsL, ls, hkL, ekL, ndL, frL⟩ := hrwL8.kp k89
            rw [hr9] at hkL
            cases hkL
            refine ⟨_, DPut.k (k := Sum.inr z) hr9 (smallL (by rw [hl9, List.length_take]; omega)), ⟨_, _, _, _, _, _, 3 * m + (i + 1) * O.length, ⟨rfl, ?_, rfl, rfl, rfl, rfl, rfl⟩, rfl⟩, ⟨fun y s => if y = z then g s else c' y s, ?_, fun y hy s hs => ?_, fun y hy s hs => ?_⟩, (k78.trans k89).wr nr⟩
            · rw [List.length_map, M1, Nat.add_mul, Nat.one_mul]
              omega
            · rw [hput, take_snoc ez]
              have rl8 : ∀ l ∈ ls, l ≠ rl := fun l hl e => by
                obtain ⟨_, kv0, ls0, h0', e0', _, g0'⟩ := hrwL8
                have e00 := k89 _ _ not0 h0'
                rw [hr9] at e00
                cases e00
                have inl : V.ref l ∈ ls0.map V.ref := by rw [← e0', ekL]; exact List.mem_map_of_mem hl
                obtain ⟨l', hl', el⟩ := List.mem_map.mp inl
                cases el
                obtain ⟨xs, hx⟩ := (g0' l hl').2
                rw [e, nrl] at hx
                cases hx
              have rlr : rl ≠ r := fun e => by rw [e, hr9] at hrl; cases hrl
              have lr : ∀ l ∈ ls, l ≠ r := fun l hl e => by
                obtain ⟨xs, hx⟩ := (frL l hl).2
                rw [e, hr9] at hx
                cases hx
              refine ⟨hrw9, _, ls ++ [rl], upd_same, by rw [List.map_append, List.map_append, ekL]; rfl, List.nodup_append.mpr ⟨ndL, by simp, fun a ha b hb e => rl8 a ha (by rw [← List.mem_singleton.mp hb]; exact e)⟩, fun l hl => ?_⟩
              rcases List.mem_append.mp hl with hl | hl
              · obtain ⟨f1, xs, f2⟩ := frL l hl
                exact ⟨f1, xs, by rw [upd_ne (lr l hl)]; exact f2⟩
              · rw [List.mem_singleton.mp hl]
                exact ⟨nrl0, xs9, by rw [upd_ne rlr]; exact hrl⟩
            · rw [take_snoc ez] at hy
              dsimp only
              by_cases e : y = z
              · rw [if_pos e]; exact (hg s hs).1
              · rw [if_neg e]
                rcases List.mem_append.mp hy with hy | hy
                · exact hb8 y hy s hs
                · exact absurd (List.mem_singleton.mp hy) e
            · rw [take_snoc ez] at hy
              unfold nx
              dsimp only
              by_cases e : y = z
              · rw [if_pos e, e]; exact (hg s hs).2
              · rw [if_neg e]
                rcases List.mem_append.mp hy with hy | hy
                · exact hcp8 y hy s hs
                · exact absurd (List.mem_singleton.mp hy) e
        · rintro σ H8 ⟨⟨c8, c14, c15, c16, c17, c18, u, rfl, rfl⟩, ⟨c', hrwL8, hb8, hcp8⟩, k78⟩
          rw [List.length_map, List.take_length] at hrwL8 hb8 hcp8
          have hrw8 := hrwL8.1
          have k08 := k07.trans k78
          have hM8 := k78 _ _ not0 hM
          have hsp8 := k78 _ _ not0 hsp7
          try simp (maxSteps := 1000000) only [tSeq, tIfS, tTest, tOp, tUn, tCB, tCons, tNil, tVar, tC, rI0, rI, rU, rEq, rNe, tRet, tRetN, tAsg, gName, gSub, tBM, tBM0, tNext, tB, tNot, tAnd, tOr, tIf, tCall, tDrop, tBreak, tCont, L2.start, tDGet, sDPut, tTup, tLst, tDNewK, tRevL, rCat, rAppend, rPop, rSetL, tAndV, tOrV, tNotV, tSl, tPart, tNoPart, tM1, gTup, gCons, gNil, cxK, cxnK, List.map_cons, List.map_nil, List.length_cons, List.length_nil, List.replicate, List.cons_append, List.nil_append, List.append_nil, List.set_cons_zero, List.set_cons_succ, List.getElem?_cons_zero, List.getElem?_cons_succ, Option.some.injEq, V.ref.injEq, V.int.injEq, V.str.injEq, V.bl.injEq, V.ty.injEq, exists_eq_left', exists_eq_left, exists_and_left, List.cons.injEq, and_true, true_and, sc_ii, sc_ss, sc_bb, sc_ni, sc_in, sc_is, sc_si, sc_nn, decide_true, decide_false, reduceCtorEq, Bool.false_eq_true, if_true, if_false, ite_true, ite_false, exists_const, eq_self, false_and, and_false, or_false, false_or, exists_false, Evl.rLenS, rSum, wipe, tYes, exists_eq, exists_eq', rIxL, rIxT, rIxS, exists_and_right, gt_iff_lt, not_true_eq_false, not_false_eq_true, Bool.not_true, Bool.not_false, decide_eq_true_eq, Nat.reduceSub, Nat.reduceAdd, List.append_assoc, tChain, tDIn, tDNotIn, sDDel, tAug, ipI]
          refine lcRgN O.length (by omega) (fun o i H' => ∃ js : List Nat, H' o = some (.lst (js.map fun x => V.int (x : Nat))) ∧ js.length ≤ i ∧ (∀ j ∈ js, j < O.length ∧ M.getD j 0 = s0) ∧ (∀ k s', k < i → M[k]? = some s' → s' = s0 → js ≠ []) ∧ Kp [] H8 H') (fun R q' => ?_) (fun o no => ⟨[], upd_same, Nat.le_refl _, (fun x h => nomatch h), fun k s' hk => absurd hk (by omega), Kp.new no⟩) ?_ ?_
          · try simp (maxSteps := 1000000) only [tSeq, tIfS, tTest, tOp, tUn, tCB, tCons, tNil, tVar, tC, rI0, rI, rU, rEq, rNe, tRet, tRetN, tAsg, gName, gSub, tBM, tBM0, tNext, tB, tNot, tAnd, tOr, tIf, tCall, tDrop, tBreak, tCont, L2.start, tDGet, sDPut, tTup, tLst, tDNewK, tRevL, rCat, rAppend, rPop, rSetL, tAndV, tOrV, tNotV, tSl, tPart, tNoPart, tM1, gTup, gCons, gNil, cxK, cxnK, List.map_cons, List.map_nil, List.length_cons, List.length_nil, List.replicate, List.cons_append, List.nil_append, List.append_nil, List.set_cons_zero, List.set_cons_succ, List.getElem?_cons_zero, List.getElem?_cons_succ, Option.some.injEq, V.ref.injEq, V.int.injEq, V.str.injEq, V.bl.injEq, V.ty.injEq, exists_eq_left', exists_eq_left, exists_and_left, List.cons.injEq, and_true, true_and, sc_ii, sc_ss, sc_bb, sc_ni, sc_in, sc_is, sc_si, sc_nn, decide_true, decide_false, reduceCtorEq, Bool.false_eq_true, if_true, if_false, ite_true, ite_false, exists_const, eq_self, false_and, and_false, or_false, false_or, exists_false, Evl.rLenS, rSum, wipe, tYes, exists_eq, exists_eq', rIxL, rIxT, rIxS, exists_and_right, gt_iff_lt, not_true_eq_false, not_false_eq_true, Bool.not_true, Bool.not_false, decide_eq_true_eq, Nat.reduceSub, Nat.reduceAdd, List.append_assoc, tChain, tDIn, tDNotIn, sDDel, tAug, ipI]
            refine ⟨_, .inl (sq_l hM8), ?_⟩
            rw [List.length_map, M1]
            exact q'
          · rintro o i' H' no hi' ⟨js, hjs, jl1, jl2, jl3, k9'⟩
            obtain ⟨s', es', sm'⟩ := Mget i' hi'
            try simp (maxSteps := 1000000) only [tSeq, tIfS, tTest, tOp, tUn, tCB, tCons, tNil, tVar, tC, rI0, rI, rU, rEq, rNe, tRet, tRetN, tAsg, gName, gSub, tBM, tBM0, tNext, tB, tNot, tAnd, tOr, tIf, tCall, tDrop, tBreak, tCont, L2.start, tDGet, sDPut, tTup, tLst, tDNewK, tRevL, rCat, rAppend, rPop, rSetL, tAndV, tOrV, tNotV, tSl, tPart, tNoPart, tM1, gTup, gCons, gNil, cxK, cxnK, List.map_cons, List.map_nil, List.length_cons, List.length_nil, List.replicate, List.cons_append, List.nil_append, List.append_nil, List.set_cons_zero, List.set_cons_succ, List.getElem?_cons_zero, List.getElem?_cons_succ, Option.some.injEq, V.ref.injEq, V.int.injEq, V.str.injEq, V.bl.injEq, V.ty.injEq, exists_eq_left', exists_eq_left, exists_and_left, List.cons.injEq, and_true, true_and, sc_ii, sc_ss, sc_bb, sc_ni, sc_in, sc_is, sc_si, sc_nn, decide_true, decide_false, reduceCtorEq, Bool.false_eq_true, if_true, if_false, ite_true, ite_false, exists_const, eq_self, false_and, and_false, or_false, false_or, exists_false, Evl.rLenS, rSum, wipe, tYes, exists_eq, exists_eq', rIxL, rIxT, rIxS, exists_and_right, gt_iff_lt, not_true_eq_false, not_false_eq_true, Bool.not_true, Bool.not_false, decide_eq_true_eq, Nat.reduceSub, Nat.reduceAdd, List.append_assoc, tChain, tDIn, tDNotIn, sDDel, tAug, ipI]
            refine ⟨_, sq_l (k9' _ _ not0 hM8), .int (s' : Nat), atI_nat (by rw [List.getElem?_map, es']; rfl), rfl, ?_⟩
            by_cases e : s' = s0
            · rw [if_pos (by rw [e])]
              refine ⟨_, hjs, smallL (by rw [List.length_map]; omega), js ++ [i'], by rw [upd_same, List.map_append]; rfl, by rw [List.length_append, List.length_singleton]; omega, fun x hx => ?_, fun k s' _ _ _ => by simp, k9'.wr no⟩
              rcases List.mem_append.mp hx with hx | hx
              · exact jl2 x hx
              · rw [List.mem_singleton.mp hx]; exact ⟨hi', by rw [List.getD_eq_getElem?_getD, es']; exact e⟩
            · rw [if_neg (fun z => e (by injection z with z; omega))]
              refine ⟨js, hjs, by omega, jl2, fun k s'' hk ek e2 => ?_, k9'⟩
              by_cases z : k = i'
              · subst z
                rw [es'] at ek
                cases ek
                exact absurd e2 e
              · exact jl3 k s'' (by omega) ek e2
          · rintro o H' no ⟨js, hjs, jl1, jl2, jl3, k9'⟩
            have jne : js ≠ [] := by
              have hin := hLM s0 s0m
              obtain ⟨k, ek⟩ := List.getElem?_of_mem hin
              exact jl3 k _ (by rw [← M1]; exact (List.getElem?_eq_some_iff.mp ek).1) ek rfl
            have jpos : 0 < js.length := List.length_pos_iff.mpr jne
            have uz : zs.length * O.length ≤ zs.length * (2 * m) := Nat.mul_le_mul (Nat.le_refl _) O3
            rw [Nat.mul_comm zs.length (2 * m)] at uz
            rw [List.length_map]
            obtain ⟨v, evv, v0, v1, _⟩ := dget (3 * m + zs.length * O.length) (by omega)
            have hsp' := k9' _ _ not0 hsp8
            try simp (maxSteps := 1000000) only [tSeq, tIfS, tTest, tOp, tUn, tCB, tCons, tNil, tVar, tC, rI0, rI, rU, rEq, rNe, tRet, tRetN, tAsg, gName, gSub, tBM, tBM0, tNext, tB, tNot, tAnd, tOr, tIf, tCall, tDrop, tBreak, tCont, L2.start, tDGet, sDPut, tTup, tLst, tDNewK, tRevL, rCat, rAppend, rPop, rSetL, tAndV, tOrV, tNotV, tSl, tPart, tNoPart, tM1, gTup, gCons, gNil, cxK, cxnK, List.map_cons, List.map_nil, List.length_cons, List.length_nil, List.replicate, List.cons_append, List.nil_append, List.append_nil, List.set_cons_zero, List.set_cons_succ, List.getElem?_cons_zero, List.getElem?_cons_succ, Option.some.injEq, V.ref.injEq, V.int.injEq, V.str.injEq, V.bl.injEq, V.ty.injEq, exists_eq_left', exists_eq_left, exists_and_left, List.cons.injEq, and_true, true_and, sc_ii, sc_ss, sc_bb, sc_ni, sc_in, sc_is, sc_si, sc_nn, decide_true, decide_false, reduceCtorEq, Bool.false_eq_true, if_true, if_false, ite_true, ite_false, exists_const, eq_self, false_and, and_false, or_false, false_or, exists_false, Evl.rLenS, rSum, wipe, tYes, exists_eq, exists_eq', rIxL, rIxT, rIxS, exists_and_right, gt_iff_lt, not_true_eq_false, not_false_eq_true, Bool.not_true, Bool.not_false, decide_eq_true_eq, Nat.reduceSub, Nat.reduceAdd, List.append_assoc, tChain, tDIn, tDNotIn, sDDel, tAug, ipI]
            refine ⟨_, sq_l hsp', _, dV evv, ?_⟩
            try simp (maxSteps := 1000000) only [tSeq, tIfS, tTest, tOp, tUn, tCB, tCons, tNil, tVar, tC, rI0, rI, rU, rEq, rNe, tRet, tRetN, tAsg, gName, gSub, tBM, tBM0, tNext, tB, tNot, tAnd, tOr, tIf, tCall, tDrop, tBreak, tCont, L2.start, tDGet, sDPut, tTup, tLst, tDNewK, tRevL, rCat, rAppend, rPop, rSetL, tAndV, tOrV, tNotV, tSl, tPart, tNoPart, tM1, gTup, gCons, gNil, cxK, cxnK, List.map_cons, List.map_nil, List.length_cons, List.length_nil, List.replicate, List.cons_append, List.nil_append, List.append_nil, List.set_cons_zero, List.set_cons_succ, List.getElem?_cons_zero, List.getElem?_cons_succ, Option.some.injEq, V.ref.injEq, V.int.injEq, V.str.injEq, V.bl.injEq, V.ty.injEq, exists_eq_left', exists_eq_left, exists_and_left, List.cons.injEq, and_true, true_and, sc_ii, sc_ss, sc_bb, sc_ni, sc_in, sc_is, sc_si, sc_nn, decide_true, decide_false, reduceCtorEq, Bool.false_eq_true, if_true, if_false, ite_true, ite_false, exists_const, eq_self, false_and, and_false, or_false, false_or, exists_false, Evl.rLenS, rSum, wipe, tYes, exists_eq, exists_eq', rIxL, rIxT, rIxS, exists_and_right, gt_iff_lt, not_true_eq_false, not_false_eq_true, Bool.not_true, Bool.not_false, decide_eq_true_eq, Nat.reduceSub, Nat.reduceAdd, List.append_assoc, tChain, tDIn, tDNotIn, sDDel, tAug, ipI, rIv_int]
            refine ⟨_, .inl (sq_l hjs), ?_⟩
            rw [List.length_map]
            have mn := Int.emod_nonneg v (show ((js.length : Nat) : Int) ≠ 0 by omega)
            have ml := Int.emod_lt_of_pos v (show (0 : Int) < (js.length : Nat) by omega)
            have ej := List.getElem?_eq_getElem (l := js) (i := (v % ((js.length : Nat) : Int)).toNat) (by omega)
            generalize js[(v % ((js.length : Nat) : Int)).toNat] = y at ej
            obtain ⟨yn, ym⟩ := jl2 y (List.mem_of_getElem? ej)
            have three : (3 : Nat) ≤ sizeLine := by rw [sizeLine_eq]; decide
            refine ⟨by omega, _, sq_l hjs, .int (y : Nat), atI_of mn (by rw [List.getElem?_map, ej]; rfl), three, fun p np => ?_⟩
            have kp := (Kp.new np : Kp [] H' (upd H' p (.lst [.ref r, .int (y : Nat), .ref xl])))
            rw [← M1] at hrwL8 hb8 hcp8 yn
            exact q p r xl y M c' _ (noneB (k08.trans k9') np) nr0 nx0 upd_same (kp _ _ not0 (k9' _ _ not0 hM8)) ((hrwL8.kp k9').kp kp) hb8 (by omega) (by omega) M2 hcp8 yn ym ((k08.trans k9').trans kp)
end
end My

set_option Elab.async false
set_option linter.all false
set_option maxRecDepth 100000
set_option maxHeartbeats 4000000
namespace My
open PySem L2 NdefX StX
structure BtCh (mg : Str → Option Value) : Prop where
  b_len : mg "len" = none
  b_range : mg "range" = none
  b_int : mg "int" = none
  b_isinstance : mg "isinstance" = none
  b_list : mg "list" = none
end My

set_option Elab.async false
set_option linter.all false
set_option maxRecDepth 100000
set_option maxHeartbeats 4000000
namespace My
open PySem L2 NdefX StX
abbrev s_law_first_row : Stmt := top 39
theorem sc_law_first_row : FnScope ["_law_row", "_law_rows_here", "_law_last", "_law_names_here", "_law_left_here", "_law_start", "_law_pair", "_law_k", "_law_due", "_law_name", "_law_one", "_law_two", "_law_near"] ["_law_row", "_law_rows_here", "_law_last", "_law_names_here", "_law_left_here", "_law_start"] (defScope s_law_first_row) := ⟨rfl, rfl, rfl, by decide +kernel, rfl, by decide +kernel, by decide +kernel⟩
section
variable {P : Program} {w : World} {K : PySem.W.Frag} {mg : Str → Option Value} {base : Heap}
/-- the distances that a dict tells, one more than they are -/
def LeftOk (zs : List Str) (c c' : Str → Nat → Int × Int) (n : Nat) (In : Nat → Prop) (kvs : List (NestedKey × V)) : Prop := ∀ x, In x → (∀ k, DistIs zs c c' n x k → valN kvs (keyG n x) = some (.int ((k : Nat) + 1))) ∧ ((∀ k, ¬ WdP zs c c' n x k) → valN kvs (keyG n x) = none)
def spFst (P : Program) (w : World) : Sp := fun vs H Q _ => ∃ (rv : V) (rd ld nl sd st : Addr) (m n f0 : Nat) (zs : List Str) (c c' : Str → Nat → Int × Int) (In : Nat → Prop) (kvs : List (NestedKey × V)), vs = [rv, .ref rd, .ref ld, .ref nl, .ref sd, .ref st] ∧ RwS H rd zs m c ∧ RwS H ld zs n c' ∧ H nl = some (.lst (zs.map V.str)) ∧ zs.Nodup ∧ (∀ z ∈ zs, nameS z = true) ∧ CellB zs m 10 c ∧ CellB zs n 10 c' ∧ m * n ≤ 10000 ∧ DnAt P w H sd kvs ∧ LeftOk zs c c' n In kvs ∧ (∀ x, In x → x < m * n ∧ ∀ z ∈ zs, In (nx (pairC c c' n) z x)) ∧ In f0 ∧ H st = some (.tup [.int (f0 / n : Nat), .int (f0 % n : Nat)]) ∧
  (((∀ k, ¬ WdP zs c c' n f0 k) ∧ rv = .non) ∨ ∃ r row, rv = .ref r ∧ H r = some (.lst (row.map V.str)) ∧ row.length ≤ 10001 ∧ FirstRow zs c c' n f0 row) ∧ ∀ H', Kp [] H H' → Q (.bl true) H'
theorem nk_pair {H : Hp} {p : Addr} {n x : Nat} (h : H p = some (.tup [.int (x / n : Nat), .int (x % n : Nat)])) : NKey H (.ref p) (keyG n x) := ⟨p, rfl, .tup h (.cons (.int _) (.cons (.int _) .nil)), key_dep⟩
theorem ok_law_first_row {f : Addr} {fd : FuncData} (D : Df K mg "_law_first_row" s_law_first_row ["_law_row", "_law_rows_here", "_law_last", "_law_names_here", "_law_left_here", "_law_start"] f fd) (T : BtCh mg) : FnOk P w K mg base CX0 1 f fd ["_law_row", "_law_rows_here", "_law_last", "_law_names_here", "_law_left_here", "_law_start"] (spFst P w) := by
  refine D.F.ok sc_law_first_row (fun vs H Q E h => ?_) (fun cdv A outer s H vs Q E hr h => ?_)
  · obtain ⟨_, _, _, _, _, _, _, _, _, _, _, _, _, _, rfl, _⟩ := h
    rfl
  · obtain ⟨rv, rd, ld, nl, sd, st, m, n, f0, zs, c, c', In, kvs, rfl, hrw, hlw, hn, nd, nm, hb, hb', mn, hd, hL, hIn, in0, hst, hcase, q⟩ := h
    have hu := hu_of hr
    refine ⟨_, (pss_cons (ps_if (pt_cmp (pc_nnotin hr.units (pv 5) (pv 4))) (pss_one (ps_ret (pe_cmpR op_isN (pv 0) pe_non (nomark _)))) pss_nil)
      (pss_cons (ps_if (PW.pt (pw_or (pt_not (pt_val (pe_callB (id := "isinstance") (r := rIsi K) call_isi (by rfl) T.b_isinstance (by decide +kernel) (pa_cons (pv 0) (pa_cons (pe_bltn (v := .ty "list") (by rfl) T.b_list (by decide +kernel) rfl) pa_nil))))) (pw_or1 (pt_cmpR op_ne (pe_callB (id := "len") (r := Evl.rLenS K) call_len_seq (by rfl) T.b_len PySem.boot_len (pa_cons (pv 0) pa_nil)) (pe_nget hr.units (pv 4) (pv 5) (fun _ _ => rfl)) (nomark _))))) (pss_one (ps_ret pe_bl)) pss_nil)
      (pss_cons (ps_set (i := 6) sc_law_first_row.nd rfl (Or.inl rfl) (pv 5))
      (pss_cons (ps_for PassesOwn.never rfl (pi_range1 rfl T.b_range (pa_cons (pe_callB (id := "len") (r := Evl.rLenS K) call_len_seq (by rfl) T.b_len PySem.boot_len (pa_cons (pv 0) pa_nil)) pa_nil)) (pg_name (i := 7) sc_law_first_row.nd rfl (Or.inl rfl)) (pss_cons (ps_set (i := 8) sc_law_first_row.nd rfl (Or.inl rfl) pe_str)
      (pss_cons (ps_for PassesOwn.never rfl (pi_list (pv 3)) (pg_name (i := 9) sc_law_first_row.nd rfl (Or.inl rfl)) (pss_cons (ps_set (i := 10) sc_law_first_row.nd rfl (Or.inl rfl) (pe_ix (r := rIxL K) ix_list (pe_dget hu (pv 1) (pv 9) (fun _ _ => rfl)) (pe_ix (r := rIxT K) ix_tup (pv 6) pe_int (fun _ _ => rfl)) (fun _ _ => rfl)))
      (pss_cons (ps_set (i := 11) sc_law_first_row.nd rfl (Or.inl rfl) (pe_ix (r := rIxL K) ix_list (pe_dget hu (pv 2) (pv 9) (fun _ _ => rfl)) (pe_ix (r := rIxT K) ix_tup (pv 6) pe_int (fun _ _ => rfl)) (fun _ _ => rfl)))
      (pss_cons (ps_set (i := 12) sc_law_first_row.nd rfl (Or.inl rfl) (pe_cmpR op_eq (pe_ngor hr.units (pv 4) (pa_cons (pe_tup (pa_cons (pe_ix (r := rIxT K) ix_tup (pv 10) pe_int (fun _ _ => rfl)) (pa_cons (pe_ix (r := rIxT K) ix_tup (pv 11) pe_int (fun _ _ => rfl)) pa_nil))) (pa_cons pe_int pa_nil))) (pe_op op_sub (pe_op op_sub (pe_callB (id := "len") (r := Evl.rLenS K) call_len_seq (by rfl) T.b_len PySem.boot_len (pa_cons (pv 0) pa_nil)) (pv 7)) pe_int) (nomark _)))
      (pss_cons (ps_if (pt_cmpR op_eq (pv 7) (pe_op op_sub (pe_callB (id := "len") (r := Evl.rLenS K) call_len_seq (by rfl) T.b_len PySem.boot_len (pa_cons (pv 0) pa_nil)) pe_int) (nomark _)) (pss_one (ps_set (i := 12) sc_law_first_row.nd rfl (Or.inl rfl) (pe_cmpR op_ne (pe_ix (r := rIxT K) ix_tup (pv 10) pe_int (fun _ _ => rfl)) (pe_ix (r := rIxT K) ix_tup (pv 11) pe_int (fun _ _ => rfl)) (nomark _)))) pss_nil)
      (pss_one (ps_if (PW.pt (pw_and (pt_val (pv 12)) (pw_and1 (pt_cmpR op_eq (pv 8) pe_str (nomark _))))) (pss_one (ps_set (i := 8) sc_law_first_row.nd rfl (Or.inl rfl) (pv 9))) pss_nil)))))))
      (pss_cons (ps_if (PW.pt (pw_or (pt_cmpR op_eq (pv 8) pe_str (nomark _)) (pw_or1 (pt_cmpR op_ne (pe_ix (r := rIxL K) ix_list (pv 0) (pv 7) (fun _ _ => rfl)) (pv 8) (nomark _))))) (pss_one (ps_ret pe_bl)) pss_nil)
      (pss_one (ps_set (i := 6) sc_law_first_row.nd rfl (Or.inl rfl) (pe_tup (pa_cons (pe_ix (r := rIxT K) ix_tup (pe_ix (r := rIxL K) ix_list (pe_dget hu (pv 1) (pv 8) (fun _ _ => rfl)) (pe_ix (r := rIxT K) ix_tup (pv 6) pe_int (fun _ _ => rfl)) (fun _ _ => rfl)) pe_int (fun _ _ => rfl)) (pa_cons (pe_ix (r := rIxT K) ix_tup (pe_ix (r := rIxL K) ix_list (pe_dget hu (pv 2) (pv 8) (fun _ _ => rfl)) (pe_ix (r := rIxT K) ix_tup (pv 6) pe_int (fun _ _ => rfl)) (fun _ _ => rfl)) pe_int (fun _ _ => rfl)) pa_nil)))))))))
      (pss_one (ps_ret pe_bl)))))), ?_⟩
    try simp (maxSteps := 1000000) only [tSeq, tIfS, tTest, tOp, tUn, tCB, tCons, tNil, tVar, tC, rI0, rI, rU, rEq, rNe, tRet, tRetN, tAsg, gName, gSub, tBM, tBM0, tNext, tB, tNot, tAnd, tOr, tIf, tCall, tDrop, tBreak, tCont, L2.start, tDGet, sDPut, tTup, tLst, tDNewK, tRevL, rCat, rAppend, rPop, rSetL, tAndV, tOrV, tNotV, tSl, tPart, tNoPart, tM1, gTup, gCons, gNil, cxK, cxnK, List.map_cons, List.map_nil, List.length_cons, List.length_nil, List.replicate, List.cons_append, List.nil_append, List.append_nil, List.set_cons_zero, List.set_cons_succ, List.getElem?_cons_zero, List.getElem?_cons_succ, Option.some.injEq, V.ref.injEq, V.int.injEq, V.str.injEq, V.bl.injEq, V.ty.injEq, exists_eq_left', exists_eq_left, exists_and_left, List.cons.injEq, and_true, true_and, sc_ii, sc_ss, sc_bb, sc_ni, sc_in, sc_is, sc_si, sc_nn, decide_true, decide_false, reduceCtorEq, Bool.false_eq_true, if_true, if_false, ite_true, ite_false, exists_const, eq_self, false_and, and_false, or_false, false_or, exists_false, Evl.rLenS, rSum, wipe, tYes, exists_eq, exists_eq', rIxL, rIxT, rIxS, exists_and_right, gt_iff_lt, not_true_eq_false, not_false_eq_true, Bool.not_true, Bool.not_false, decide_eq_true_eq, Nat.reduceSub, Nat.reduceAdd, List.append_assoc, tChain, tDIn, tDNotIn, sDDel, tAug, ipI, tNNotIn, sNPut, tNDef, tNGet]
    refine ⟨kvs, hd, keyG n f0, nk_pair hst, ?_⟩
    rcases hcase with ⟨hno, rfl⟩ | ⟨r, row, rfl, hrow, r1, hF⟩
    · rw [(hL f0 in0).2 hno, if_pos (by rfl), decide_eq_true rfl]
      exact q H (Kp.refl [] _)
    obtain ⟨L, hlen, hrz, hdist, hfirst, zl, xl, ezl, exl, hdl, hbl⟩ := first_spec nd hF
    have h0 := hdist 0 (Nat.zero_le _)
    have v0 : valN kvs (keyG n f0) = some (.int ((L : Nat) + 1)) := (hL f0 in0).1 L h0
    rw [v0, if_neg (by simp)]
    refine ⟨.ref r, .ty "list", _, _, true, rfl, .ty "list", .base (.lst hrow), kit_ty (by decide +kernel), true, rfl, ?_⟩
    rw [if_neg (by decide)]
    refine ⟨r, rfl, row.map V.str, .inl (sq_l hrow), ?_⟩
    try simp (maxSteps := 1000000) only [tSeq, tIfS, tTest, tOp, tUn, tCB, tCons, tNil, tVar, tC, rI0, rI, rU, rEq, rNe, tRet, tRetN, tAsg, gName, gSub, tBM, tBM0, tNext, tB, tNot, tAnd, tOr, tIf, tCall, tDrop, tBreak, tCont, L2.start, tDGet, sDPut, tTup, tLst, tDNewK, tRevL, rCat, rAppend, rPop, rSetL, tAndV, tOrV, tNotV, tSl, tPart, tNoPart, tM1, gTup, gCons, gNil, cxK, cxnK, List.map_cons, List.map_nil, List.length_cons, List.length_nil, List.replicate, List.cons_append, List.nil_append, List.append_nil, List.set_cons_zero, List.set_cons_succ, List.getElem?_cons_zero, List.getElem?_cons_succ, Option.some.injEq, V.ref.injEq, V.int.injEq, V.str.injEq, V.bl.injEq, V.ty.injEq, exists_eq_left', exists_eq_left, exists_and_left, List.cons.injEq, and_true, true_and, sc_ii, sc_ss, sc_bb, sc_ni, sc_in, sc_is, sc_si, sc_nn, decide_true, decide_false, reduceCtorEq, Bool.false_eq_true, if_true, if_false, ite_true, ite_false, exists_const, eq_self, false_and, and_false, or_false, false_or, exists_false, Evl.rLenS, rSum, wipe, tYes, exists_eq, exists_eq', rIxL, rIxT, rIxS, exists_and_right, gt_iff_lt, not_true_eq_false, not_false_eq_true, Bool.not_true, Bool.not_false, decide_eq_true_eq, Nat.reduceSub, Nat.reduceAdd, List.append_assoc, tChain, tDIn, tDNotIn, sDDel, tAug, ipI, tNNotIn, sNPut, tNDef, tNGet]
    refine ⟨kvs, hd, _, nk_pair hst, _, v0, rfl, ?_⟩
    rw [List.length_map, hlen, decide_eq_true (by push_cast; rfl), if_neg (by decide)]
    refine forRg (L + 1) (fun k σ H' => (∃ (qs : Addr) (c7 c8 c9 c10 c11 c12 : Option V), σ = [some (.ref r), some (.ref rd), some (.ref ld), some (.ref nl), some (.ref sd), some (.ref st), some (.ref qs), c7, c8, c9, c10, c11, c12] ∧ H' qs = some (.tup [.int (runC (pairC c c' n) f0 (row.take k) / n : Nat), .int (runC (pairC c c' n) f0 (row.take k) % n : Nat)])) ∧ Kp [] H H') (fun R q' => ?_) (by omega) (by omega) ⟨⟨st, _, _, _, _, _, _, rfl, hst⟩, Kp.refl [] _⟩ ?_ ?_
    · try simp (maxSteps := 1000000) only [tSeq, tIfS, tTest, tOp, tUn, tCB, tCons, tNil, tVar, tC, rI0, rI, rU, rEq, rNe, tRet, tRetN, tAsg, gName, gSub, tBM, tBM0, tNext, tB, tNot, tAnd, tOr, tIf, tCall, tDrop, tBreak, tCont, L2.start, tDGet, sDPut, tTup, tLst, tDNewK, tRevL, rCat, rAppend, rPop, rSetL, tAndV, tOrV, tNotV, tSl, tPart, tNoPart, tM1, gTup, gCons, gNil, cxK, cxnK, List.map_cons, List.map_nil, List.length_cons, List.length_nil, List.replicate, List.cons_append, List.nil_append, List.append_nil, List.set_cons_zero, List.set_cons_succ, List.getElem?_cons_zero, List.getElem?_cons_succ, Option.some.injEq, V.ref.injEq, V.int.injEq, V.str.injEq, V.bl.injEq, V.ty.injEq, exists_eq_left', exists_eq_left, exists_and_left, List.cons.injEq, and_true, true_and, sc_ii, sc_ss, sc_bb, sc_ni, sc_in, sc_is, sc_si, sc_nn, decide_true, decide_false, reduceCtorEq, Bool.false_eq_true, if_true, if_false, ite_true, ite_false, exists_const, eq_self, false_and, and_false, or_false, false_or, exists_false, Evl.rLenS, rSum, wipe, tYes, exists_eq, exists_eq', rIxL, rIxT, rIxS, exists_and_right, gt_iff_lt, not_true_eq_false, not_false_eq_true, Bool.not_true, Bool.not_false, decide_eq_true_eq, Nat.reduceSub, Nat.reduceAdd, List.append_assoc, tChain, tDIn, tDNotIn, sDDel, tAug, ipI]
      refine ⟨_, .inl (sq_l hrow), ?_⟩
      rw [List.length_map, hlen]
      exact q'
    · rintro k σ H1 hk ⟨⟨qs, c7, c8, c9, c10, c11, c12, rfl, hqs⟩, k1⟩
      try simp (maxSteps := 1000000) only [tSeq, tIfS, tTest, tOp, tUn, tCB, tCons, tNil, tVar, tC, rI0, rI, rU, rEq, rNe, tRet, tRetN, tAsg, gName, gSub, tBM, tBM0, tNext, tB, tNot, tAnd, tOr, tIf, tCall, tDrop, tBreak, tCont, L2.start, tDGet, sDPut, tTup, tLst, tDNewK, tRevL, rCat, rAppend, rPop, rSetL, tAndV, tOrV, tNotV, tSl, tPart, tNoPart, tM1, gTup, gCons, gNil, cxK, cxnK, List.map_cons, List.map_nil, List.length_cons, List.length_nil, List.replicate, List.cons_append, List.nil_append, List.append_nil, List.set_cons_zero, List.set_cons_succ, List.getElem?_cons_zero, List.getElem?_cons_succ, Option.some.injEq, V.ref.injEq, V.int.injEq, V.str.injEq, V.bl.injEq, V.ty.injEq, exists_eq_left', exists_eq_left, exists_and_left, List.cons.injEq, and_true, true_and, sc_ii, sc_ss, sc_bb, sc_ni, sc_in, sc_is, sc_si, sc_nn, decide_true, decide_false, reduceCtorEq, Bool.false_eq_true, if_true, if_false, ite_true, ite_false, exists_const, eq_self, false_and, and_false, or_false, false_or, exists_false, Evl.rLenS, rSum, wipe, tYes, exists_eq, exists_eq', rIxL, rIxT, rIxS, exists_and_right, gt_iff_lt, not_true_eq_false, not_false_eq_true, Bool.not_true, Bool.not_false, decide_eq_true_eq, Nat.reduceSub, Nat.reduceAdd, List.append_assoc, tChain, tDIn, tDNotIn, sDDel, tAug, ipI, tNNotIn, sNPut, tNDef, tNGet]
      have ek := List.getElem?_eq_getElem (l := row) (i := k) (by omega)
      generalize row[k]'(by omega) = zk at ek
      have zkin := hrz zk (List.mem_of_getElem? ek)
      have inx : ∀ j, j ≤ row.length → In (runC (pairC c c' n) f0 (row.take j)) := fun j => by
        induction j with
        | zero => exact fun _ => in0
        | succ j ih =>
          intro hj
          have ej := List.getElem?_eq_getElem (l := row) (i := j) (by omega)
          rw [take_snoc ej, runC_snoc]
          exact (hIn _ (ih (by omega))).2 _ (hrz _ (List.mem_of_getElem? ej))
      have ixk := inx k (by omega)
      have esx : runC (pairC c c' n) f0 (row.take (k + 1)) = nx (pairC c c' n) zk (runC (pairC c c' n) f0 (row.take k)) := by rw [take_snoc ek, runC_snoc]
      have hdk := hdist k (by omega)
      have hdk1 : k < L → DistIs zs c c' n (nx (pairC c c' n) zk (runC (pairC c c' n) f0 (row.take k))) (L - k - 1) := fun h => by
        have := hdist (k + 1) (by omega)
        rw [esx] at this
        exact this
      have hf1 : k < L → ∀ y ∈ zs, zs.idxOf y < zs.idxOf zk → ¬ DistIs zs c c' n (nx (pairC c c' n) y (runC (pairC c c' n) f0 (row.take k))) (L - k - 1) := fun h => hfirst k zk h ek
      have hl1 : k = L → (c zk (runC (pairC c c' n) f0 (row.take k) / n)).1 ≠ (c' zk (runC (pairC c c' n) f0 (row.take k) % n)).1 ∧ ∀ y ∈ zs, zs.idxOf y < zs.idxOf zk → (c y (runC (pairC c c' n) f0 (row.take k) / n)).1 = (c' y (runC (pairC c c' n) f0 (row.take k) % n)).1 := fun h => by
        subst h
        rw [ezl] at ek
        cases ek
        rw [exl]
        exact ⟨hdl, hbl⟩
      rw [esx]
      generalize runC (pairC c c' n) f0 (row.take k) = x at *
      have xm := (hIn x ixk).1
      have sm := pair_in xm
      have hn1 := k1 _ _ not0 hn
      have hd1' := dn_kp hd k1
      have pnx : ∀ z ∈ zs, (c z (x / n)).2 = ((nx (pairC c c' n) z x / n : Nat) : Int) ∧ (c' z (x % n)).2 = ((nx (pairC c c' n) z x % n : Nat) : Int) := fun z hz => by
        obtain ⟨_, g1, g2⟩ := hb z hz _ sm.1
        obtain ⟨_, g3, g4⟩ := hb' z hz _ sm.2
        have nx2 : nx c' z (x % n) < n := by unfold nx; omega
        rw [pair_nx, pair_div nx2, pair_mod nx2]
        unfold nx
        exact ⟨(Int.toNat_of_nonneg g1).symm, (Int.toNat_of_nonneg g3).symm⟩
      refine ⟨.ref nl, rfl, nl, rfl, ⟨_, sq_l hn1⟩, for_list (K := K) (a := nl) (xs := zs.map V.str) (fun j σ H' => (∃ c9 c10 c11 c12 : Option V, σ = [some (.ref r), some (.ref rd), some (.ref ld), some (.ref nl), some (.ref sd), some (.ref st), some (.ref qs), some (.int (k : Nat)), some (.str (if zs.idxOf zk < j then zk else "")), c9, c10, c11, c12]) ∧ Kp [] H1 H') ⟨⟨_, _, _, _, by rw [if_neg (by omega)]⟩, Kp.refl [] _⟩ (fun j σ H' _ h => h.2.ls not0 (sq_l hn1)) ?_ ?_⟩
      · rintro j x0 σ H2 hx ⟨⟨c9, c10, c11, c12, rfl⟩, k2⟩
        obtain ⟨z, ez, rfl⟩ : ∃ z, zs[j]? = some z ∧ V.str z = x0 := by
          rw [List.getElem?_map] at hx
          cases e : zs[j]? with
          | none => rw [e] at hx; cases hx
          | some z => rw [e] at hx; exact ⟨z, rfl, Option.some.inj hx⟩
        have hz := List.mem_of_getElem? ez
        have izj := idx_at nd ez
        have k02 := k1.trans k2
        obtain ⟨kv, l1, x1, hd1, ev1, hl1', hc1⟩ := (hrw.kp k02).get nd hz
        obtain ⟨t1, et1, ht1⟩ := hc1.2 _ sm.1
        obtain ⟨kv', l2, x2, hd2, ev2, hl2', hc2⟩ := (hlw.kp k02).get nd hz
        obtain ⟨t2, et2, ht2⟩ := hc2.2 _ sm.2
        rw [(pnx z hz).1] at ht1
        rw [(pnx z hz).2] at ht2
        try simp (maxSteps := 1000000) only [tSeq, tIfS, tTest, tOp, tUn, tCB, tCons, tNil, tVar, tC, rI0, rI, rU, rEq, rNe, tRet, tRetN, tAsg, gName, gSub, tBM, tBM0, tNext, tB, tNot, tAnd, tOr, tIf, tCall, tDrop, tBreak, tCont, L2.start, tDGet, sDPut, tTup, tLst, tDNewK, tRevL, rCat, rAppend, rPop, rSetL, tAndV, tOrV, tNotV, tSl, tPart, tNoPart, tM1, gTup, gCons, gNil, cxK, cxnK, List.map_cons, List.map_nil, List.length_cons, List.length_nil, List.replicate, List.cons_append, List.nil_append, List.append_nil, List.set_cons_zero, List.set_cons_succ, List.getElem?_cons_zero, List.getElem?_cons_succ, Option.some.injEq, V.ref.injEq, V.int.injEq, V.str.injEq, V.bl.injEq, V.ty.injEq, exists_eq_left', exists_eq_left, exists_and_left, List.cons.injEq, and_true, true_and, sc_ii, sc_ss, sc_bb, sc_ni, sc_in, sc_is, sc_si, sc_nn, decide_true, decide_false, reduceCtorEq, Bool.false_eq_true, if_true, if_false, ite_true, ite_false, exists_const, eq_self, false_and, and_false, or_false, false_or, exists_false, Evl.rLenS, rSum, wipe, tYes, exists_eq, exists_eq', rIxL, rIxT, rIxS, exists_and_right, gt_iff_lt, not_true_eq_false, not_false_eq_true, Bool.not_true, Bool.not_false, decide_eq_true_eq, Nat.reduceSub, Nat.reduceAdd, List.append_assoc, tChain, tDIn, tDNotIn, sDDel, tAug, ipI, tNNotIn, sNPut, tNDef, tNGet, tNGor]
        refine ⟨_, ev1 ▸ DGet.k (k := Sum.inr z) hd1, _, sq_t (k2 _ _ not0 hqs), _, rfl, l1, rfl, x1, _, rfl, sq_l hl1', _, atI_nat et1, _, ev2 ▸ DGet.k (k := Sum.inr z) hd2, _, sq_t (k2 _ _ not0 hqs), _, rfl, l2, rfl, x2, _, rfl, sq_l hl2', _, atI_nat et2, ⟨kvs, dn_kp hd1' k2⟩, t1, rfl, _, sq_t ht1, _, rfl, t2, rfl, _, sq_t ht2, _, rfl, by rw [sizeLine_eq]; decide, fun p np => ?_⟩
        have kp := (Kp.new np : Kp [] H2 (upd H2 p (.tup [.int (nx (pairC c c' n) z x / n : Nat), .int (nx (pairC c c' n) z x % n : Nat)])))
        have hp : (upd H2 p (.tup [.int (nx (pairC c c' n) z x / n : Nat), .int (nx (pairC c c' n) z x % n : Nat)])) p = some (.tup [.int (nx (pairC c c' n) z x / n : Nat), .int (nx (pairC c c' n) z x % n : Nat)]) := upd_same
        generalize upd H2 p (.tup [.int (nx (pairC c c' n) z x / n : Nat), .int (nx (pairC c c' n) z x % n : Nat)]) = H3 at kp hp ⊢
        have k13 := k2.trans kp
        have k03 := k1.trans k13
        have zne : zk ≠ Str.ofString "" := fun e => by have := nm zk zkin; rw [e] at this; revert this; decide +kernel
        have fin : ∀ (near : Prop) [Decidable near], (zs.idxOf zk = j → near) → (j < zs.idxOf zk → ¬ near) → (if near then (if (if zs.idxOf zk < j then zk else Str.ofString "") = Str.ofString "" then (z = if zs.idxOf zk < j + 1 then zk else Str.ofString "") ∧ Kp [] H1 H3 else ((if zs.idxOf zk < j then zk else Str.ofString "") = if zs.idxOf zk < j + 1 then zk else Str.ofString "") ∧ Kp [] H1 H3) else ((if zs.idxOf zk < j then zk else Str.ofString "") = if zs.idxOf zk < j + 1 then zk else Str.ofString "") ∧ Kp [] H1 H3) := fun near _ hT hF => by
          rcases Nat.lt_trichotomy (zs.idxOf zk) j with o | o | o
          · have e1 : (if zs.idxOf zk < j then zk else Str.ofString "") = zk := if_pos o
            have e2 : (if zs.idxOf zk < j + 1 then zk else Str.ofString "") = zk := if_pos (by omega)
            rw [e1, e2, if_neg zne]
            split <;> exact ⟨rfl, k13⟩
          · have e1 : (if zs.idxOf zk < j then zk else Str.ofString "") = Str.ofString "" := if_neg (by omega)
            have e2 : (if zs.idxOf zk < j + 1 then zk else Str.ofString "") = zk := if_pos (by omega)
            rw [e1, e2, if_pos rfl, if_pos (hT o)]
            have : zs[j]? = some zk := by
              have h1 := List.idxOf_lt_length_iff.mpr zkin
              rw [← o, List.getElem?_eq_getElem h1, List.getElem_idxOf h1]
            rw [ez] at this
            exact ⟨Option.some.inj this, k13⟩
          · have e1 : (if zs.idxOf zk < j then zk else Str.ofString "") = Str.ofString "" := if_neg (by omega)
            have e2 : (if zs.idxOf zk < j + 1 then zk else Str.ofString "") = Str.ofString "" := if_neg (by omega)
            rw [e1, e2, if_neg (hF o)]
            exact ⟨rfl, k13⟩
        have same : zs.idxOf zk = j → z = zk := fun o => by
          have : zs[j]? = some zk := by
            have h1 := List.idxOf_lt_length_iff.mpr zkin
            rw [← o, List.getElem?_eq_getElem h1, List.getElem_idxOf h1]
          rw [ez] at this
          exact Option.some.inj this
        have inz := (hIn x ixk).2 z hz
        have hr3 := k03 _ _ not0 hrow
        refine ⟨kvs, keyG n (nx (pairC c c' n) z x), _, _, ⟨rfl, rfl⟩, dn_kp hd k03, nk_pair hp, fun v' hv => ⟨_, .inl (sq_l hr3), ?_⟩, fun hv => ⟨_, .inl (sq_l hr3), ?_⟩⟩
        · have hex : ∃ d, DistIs zs c c' n (nx (pairC c c' n) z x) d := by
            refine Classical.byContradiction fun hne => ?_
            have := (hL _ inz).2 fun k hw => by
              obtain ⟨d, _, hd⟩ := dist_ex hw
              exact hne ⟨d, hd⟩
            rw [this] at hv; cases hv
          obtain ⟨d, hdd⟩ := hex
          have := (hL _ inz).1 d hdd
          rw [this] at hv
          cases hv
          refine ⟨rfl, _, .inl (sq_l hr3), ?_⟩
          rw [List.length_map, hlen]
          by_cases kL : k = L
          · rw [if_pos (by push_cast; omega)]
            obtain ⟨w1, w2⟩ := hl1 kL
            refine ⟨t1, rfl, _, sq_t (kp _ _ not0 ht1), _, rfl, t2, rfl, _, sq_t (kp _ _ not0 ht2), _, rfl, rfl, fin _ (fun o => ?_) (fun o e => ?_)⟩
            · rw [← same o] at w1
              rw [decide_eq_false (fun e => w1 (by injection e))]
              rfl
            · rw [decide_eq_true (by rw [w2 z hz (by rw [izj]; exact o)])] at e
              cases e
          · rw [if_neg (by push_cast; omega)]
            refine fin _ (fun o => ?_) (fun o e => ?_)
            · have e := hdk1 (by omega)
              rw [← same o] at e
              rw [hdd.uniq e]
              congr 1
              push_cast
              omega
            · refine hf1 (by omega) z hz (by rw [izj]; exact o) ?_
              injection e with e
              rw [show L - k - 1 = d by push_cast at e; omega]
              exact hdd
        · refine ⟨rfl, _, .inl (sq_l hr3), ?_⟩
          rw [List.length_map, hlen]
          by_cases kL : k = L
          · rw [if_pos (by push_cast; omega)]
            obtain ⟨w1, w2⟩ := hl1 kL
            refine ⟨t1, rfl, _, sq_t (kp _ _ not0 ht1), _, rfl, t2, rfl, _, sq_t (kp _ _ not0 ht2), _, rfl, rfl, fin _ (fun o => ?_) (fun o e => ?_)⟩
            · rw [← same o] at w1
              rw [decide_eq_false (fun e => w1 (by injection e))]
              rfl
            · rw [decide_eq_true (by rw [w2 z hz (by rw [izj]; exact o)])] at e
              cases e
          · rw [if_neg (by push_cast; omega)]
            refine fin _ (fun o => ?_) (fun o e => ?_)
            · have e := hdk1 (by omega)
              rw [← same o] at e
              have := (hL _ inz).1 _ e
              rw [this] at hv; cases hv
            · injection e with e
              push_cast at e
              omega
      · rintro σ H2 ⟨⟨c9, c10, c11, c12, rfl⟩, k2⟩
        rw [List.length_map, if_pos (List.idxOf_lt_length_iff.mpr zkin)]
        try simp (maxSteps := 1000000) only [tSeq, tIfS, tTest, tOp, tUn, tCB, tCons, tNil, tVar, tC, rI0, rI, rU, rEq, rNe, tRet, tRetN, tAsg, gName, gSub, tBM, tBM0, tNext, tB, tNot, tAnd, tOr, tIf, tCall, tDrop, tBreak, tCont, L2.start, tDGet, sDPut, tTup, tLst, tDNewK, tRevL, rCat, rAppend, rPop, rSetL, tAndV, tOrV, tNotV, tSl, tPart, tNoPart, tM1, gTup, gCons, gNil, cxK, cxnK, List.map_cons, List.map_nil, List.length_cons, List.length_nil, List.replicate, List.cons_append, List.nil_append, List.append_nil, List.set_cons_zero, List.set_cons_succ, List.getElem?_cons_zero, List.getElem?_cons_succ, Option.some.injEq, V.ref.injEq, V.int.injEq, V.str.injEq, V.bl.injEq, V.ty.injEq, exists_eq_left', exists_eq_left, exists_and_left, List.cons.injEq, and_true, true_and, sc_ii, sc_ss, sc_bb, sc_ni, sc_in, sc_is, sc_si, sc_nn, decide_true, decide_false, reduceCtorEq, Bool.false_eq_true, if_true, if_false, ite_true, ite_false, exists_const, eq_self, false_and, and_false, or_false, false_or, exists_false, Evl.rLenS, rSum, wipe, tYes, exists_eq, exists_eq', rIxL, rIxT, rIxS, exists_and_right, gt_iff_lt, not_true_eq_false, not_false_eq_true, Bool.not_true, Bool.not_false, decide_eq_true_eq, Nat.reduceSub, Nat.reduceAdd, List.append_assoc, tChain, tDIn, tDNotIn, sDDel, tAug, ipI, tNNotIn, sNPut, tNDef, tNGet]
        have k02 := k1.trans k2
        obtain ⟨kv, l1, x1, hd1, ev1, hl1', hc1⟩ := (hrw.kp k02).get nd zkin
        obtain ⟨t1, et1, ht1⟩ := hc1.2 _ sm.1
        obtain ⟨kv', l2, x2, hd2, ev2, hl2', hc2⟩ := (hlw.kp k02).get nd zkin
        obtain ⟨t2, et2, ht2⟩ := hc2.2 _ sm.2
        rw [(pnx zk zkin).1] at ht1
        rw [(pnx zk zkin).2] at ht2
        have zne : zk ≠ Str.ofString "" := fun e => by have := nm zk zkin; rw [e] at this; revert this; decide +kernel
        rw [if_neg zne]
        refine ⟨_, sq_l (k02 _ _ not0 hrow), .str zk, atI_nat (by rw [List.getElem?_map, ek]; rfl), rfl, ?_⟩
        rw [decide_eq_true rfl, if_neg (by decide)]
        refine ⟨_, ev1 ▸ DGet.k (k := Sum.inr zk) hd1, _, sq_t (k2 _ _ not0 hqs), _, rfl, l1, rfl, x1, _, rfl, sq_l hl1', _, atI_nat et1, t1, rfl, _, sq_t ht1, _, rfl, _, ev2 ▸ DGet.k (k := Sum.inr zk) hd2, _, sq_t (k2 _ _ not0 hqs), _, rfl, l2, rfl, x2, _, rfl, sq_l hl2', _, atI_nat et2, t2, rfl, _, sq_t ht2, _, rfl, by rw [sizeLine_eq]; decide, fun p np => ?_⟩
        have kp := (Kp.new np : Kp [] H2 (upd H2 p (.tup [.int (nx (pairC c c' n) zk x / n : Nat), .int (nx (pairC c c' n) zk x % n : Nat)])))
        exact ⟨upd_same, k02.trans kp⟩
    · rintro σ H1 ⟨⟨qs, c7, c8, c9, c10, c11, c12, rfl, hqs⟩, k1⟩
      try simp (maxSteps := 1000000) only [tSeq, tIfS, tTest, tOp, tUn, tCB, tCons, tNil, tVar, tC, rI0, rI, rU, rEq, rNe, tRet, tRetN, tAsg, gName, gSub, tBM, tBM0, tNext, tB, tNot, tAnd, tOr, tIf, tCall, tDrop, tBreak, tCont, L2.start, tDGet, sDPut, tTup, tLst, tDNewK, tRevL, rCat, rAppend, rPop, rSetL, tAndV, tOrV, tNotV, tSl, tPart, tNoPart, tM1, gTup, gCons, gNil, cxK, cxnK, List.map_cons, List.map_nil, List.length_cons, List.length_nil, List.replicate, List.cons_append, List.nil_append, List.append_nil, List.set_cons_zero, List.set_cons_succ, List.getElem?_cons_zero, List.getElem?_cons_succ, Option.some.injEq, V.ref.injEq, V.int.injEq, V.str.injEq, V.bl.injEq, V.ty.injEq, exists_eq_left', exists_eq_left, exists_and_left, List.cons.injEq, and_true, true_and, sc_ii, sc_ss, sc_bb, sc_ni, sc_in, sc_is, sc_si, sc_nn, decide_true, decide_false, reduceCtorEq, Bool.false_eq_true, if_true, if_false, ite_true, ite_false, exists_const, eq_self, false_and, and_false, or_false, false_or, exists_false, Evl.rLenS, rSum, wipe, tYes, exists_eq, exists_eq', rIxL, rIxT, rIxS, exists_and_right, gt_iff_lt, not_true_eq_false, not_false_eq_true, Bool.not_true, Bool.not_false, decide_eq_true_eq, Nat.reduceSub, Nat.reduceAdd, List.append_assoc, tChain, tDIn, tDNotIn, sDDel, tAug, ipI]
      exact q H1 k1
end
end My

set_option Elab.async false
set_option linter.all false
set_option maxRecDepth 100000
set_option maxHeartbeats 4000000
namespace My
open PySem L2 NdefX StX
abbrev s_law_chain : Stmt := top 36
theorem sc_law_chain : FnScope ["_law_names_here", "_law_size", "_law_answer", "_law_spot", "_law_rows_here", "_law_k", "_law_state"] ["_law_names_here", "_law_size", "_law_answer", "_law_spot"] (defScope s_law_chain) := ⟨rfl, rfl, rfl, by decide +kernel, rfl, by decide +kernel, by decide +kernel⟩
def RwP (H : Hp) (r : Addr) (zs : List Str) (M : Nat) (c : Str → Nat → Int × Int) (z : Str) (k : Nat) : Prop := ∃ (kvs : List (Key × V)) (l : Addr) (xs : List V), H r = some (.dK (kvs ++ [(Sum.inr z, .ref l)])) ∧ kvs.length = zs.length ∧ (∀ (i : Nat) (y : Str), zs[i]? = some y → ∃ l xs, kvs[i]? = some (Sum.inr y, .ref l) ∧ H l = some (.lst xs) ∧ Cells (c y) xs M H) ∧ H l = some (.lst xs) ∧ Cells (c z) xs k H
theorem keys_of {kvs : List (Key × V)} {zs : List Str} {H : Hp} {M : Nat} {c : Str → Nat → Int × Int} (hl : kvs.length = zs.length) (hv : ∀ (i : Nat) (y : Str), zs[i]? = some y → ∃ l xs, kvs[i]? = some (Sum.inr y, .ref l) ∧ H l = some (.lst xs) ∧ Cells (c y) xs M H) {z : Str} (hz : z ∉ zs) : (Sum.inr z : Key) ∉ kvs.map (·.1) := by
  rw [RwAt.keys (P := fun _ _ _ => True) hl fun i z e => by obtain ⟨l, xs, a, _⟩ := hv i z e; exact ⟨_, a, True.intro⟩]
  intro hm
  obtain ⟨z', hz', e⟩ := List.mem_map.mp hm
  cases e
  exact hz hz'
theorem RwP.done {H : Hp} {r : Addr} {zs : List Str} {M : Nat} {c : Str → Nat → Int × Int} {z : Str} (h : RwP H r zs M c z M) : RwAt H r (zs ++ [z]) M c := by
  obtain ⟨kvs, l, xs, hd, hlen, hv, hl, hcl⟩ := h
  refine ⟨_, hd, by simp [hlen], fun i y e => ?_⟩
  rcases Nat.lt_trichotomy i zs.length with w | w | w
  · rw [List.getElem?_append_left w] at e
    obtain ⟨l', xs', a, b, cc⟩ := hv i y e
    exact ⟨l', xs', by rw [List.getElem?_append_left (by omega)]; exact a, b, cc⟩
  · subst w
    rw [List.getElem?_append_right (Nat.le_refl _), Nat.sub_self] at e
    cases e
    exact ⟨l, xs, by rw [← hlen, List.getElem?_append_right (Nat.le_refl _), Nat.sub_self]; rfl, hl, hcl⟩
  · rw [List.getElem?_append_right (by omega), List.getElem?_eq_none (by simp; omega)] at e
    cases e
theorem RwAt.add {H H2 : Hp} {r l : Addr} {zs : List Str} {M : Nat} {c : Str → Nat → Int × Int} {z : Str} {xs : List V} (h : RwAt H r zs M c) (k : Kp [] H H2) (hz : z ∉ zs) (hl : H2 l = some (.lst xs)) (hc : Cells (c z) xs M H2) :
    ∃ kvs, H2 r = some (.dK kvs) ∧ kvs.length = zs.length ∧ RwAt (upd H2 r (.dK (putK kvs (Sum.inr z) (.ref l)))) r (zs ++ [z]) M c := by
  obtain ⟨kvs, hd, hlen, hv⟩ := h
  have hd2 := k _ _ not0 hd
  have kw : Kp [r] H2 (upd H2 r (.dK (putK kvs (Sum.inr z) (.ref l)))) := (Kp.refl [r] _).put List.mem_cons_self
  refine ⟨kvs, hd2, hlen, RwP.done ⟨kvs, l, xs, ?_, hlen, fun i y e => ?_, kw _ _ (fun m => (dk_no hd2 _ m _).2 hl) hl, hc.kpN kw (dk_no hd2)⟩⟩
  · rw [upd_same, putK_new _ (valV_fresh (keys_of hlen hv hz))]
  · obtain ⟨l', xs', a, b, cc⟩ := hv i y e
    have hb := k _ _ not0 b
    exact ⟨l', xs', a, kw _ _ (fun m => (dk_no hd2 _ m _).2 hb) hb, (cc.kp k).kpN kw (dk_no hd2)⟩
/-- a chain: the operation at place sp goes up and answers an at its end, the others go back or stay -/
def chC (zs : List Str) (sz : Nat) (an : Int) (sp : Nat) (z : Str) (s : Nat) : Int × Int := if zs.idxOf z = sp then (if s < sz - 1 then (0, ((s + 1 : Nat) : Int)) else (an, ((sz - 1 : Nat) : Int))) else if (sp + zs.idxOf z) % 2 = 0 then (0, 0) else (0, ((s : Nat) : Int))
theorem chC_ok {zs : List Str} {sz sp : Nat} {an : Int} (s1 : 1 ≤ sz) (a0 : 0 ≤ an) (a1 : an < 10) : CellB zs sz 10 (chC zs sz an sp) := fun z hz s hs => by
  unfold chC
  split
  · split
    · exact ⟨⟨Int.le_refl _, by show (0 : Int) < 10; decide⟩, Int.natCast_nonneg _, by show ((s + 1 : Nat) : Int) < _; omega⟩
    · exact ⟨⟨a0, a1⟩, Int.natCast_nonneg _, by show ((sz - 1 : Nat) : Int) < _; omega⟩
  · split
    · exact ⟨⟨by decide, by decide⟩, by decide, by show (0 : Int) < _; omega⟩
    · exact ⟨⟨Int.le_refl _, by show (0 : Int) < 10; decide⟩, Int.natCast_nonneg _, by show ((s : Nat) : Int) < _; omega⟩
theorem rep_flatR (v : V) : ∀ k : Nat, (List.replicate k [v]).flatten = List.replicate k v
  | 0 => rfl
  | k + 1 => by rw [List.replicate_succ, List.flatten_cons, rep_flatR v k, List.replicate_succ]; rfl
section
variable {P : Program} {w : World} {K : PySem.W.Frag} {mg : Str → Option Value} {base : Heap}
def spChain : Sp := fun vs H Q _ => ∃ (nl : Addr) (sz sp : Nat) (an : Int) (zs : List Str), vs = [.ref nl, .int (sz : Nat), .int an, .int (sp : Nat)] ∧ H nl = some (.lst (zs.map V.str)) ∧ zs.Nodup ∧ zs.length ≤ 6 ∧ 1 ≤ sz ∧ sz ≤ 100 ∧ sp ≤ 10 ∧
  ∀ (r : Addr) (H' : Hp), H r = none → RwAt H' r zs sz (chC zs sz an sp) → Kp [] H H' → Q (.ref r) H'
theorem ok_law_chain {f : Addr} {fd : FuncData} (D : Df K mg "_law_chain" s_law_chain ["_law_names_here", "_law_size", "_law_answer", "_law_spot"] f fd) (T : BtCh mg) : FnOk P w K mg base CX0 1 f fd ["_law_names_here", "_law_size", "_law_answer", "_law_spot"] spChain := by
  refine D.F.ok sc_law_chain (fun vs H Q E h => ?_) (fun cdv A outer s H vs Q E hr h => ?_)
  · obtain ⟨_, _, _, _, _, rfl, _⟩ := h
    rfl
  · obtain ⟨nl, sz, sp, an, zs, rfl, hn, nd, z6, s1, s100, sp10, q⟩ := h
    have hu := hu_of hr
    refine ⟨_, (pss_cons (ps_set (i := 4) sc_law_chain.nd rfl (Or.inl rfl) pe_dnewK)
      (pss_cons (ps_for PassesOwn.never rfl (pi_range1 rfl T.b_range (pa_cons (pe_callB (id := "len") (r := Evl.rLenS K) call_len_seq (by rfl) T.b_len PySem.boot_len (pa_cons (pv 0) pa_nil)) pa_nil)) (pg_name (i := 5) sc_law_chain.nd rfl (Or.inl rfl)) (pss_one (ps_if (pt_cmpR op_eq (pv 5) (pv 3) (nomark _)) (pss_one (ps_dput hu (pv 4) (pe_ix (r := rIxL K) ix_list (pv 0) (pv 5) (fun _ _ => rfl)) (pe_op op_cat (pe_lc (own := [("_law_state", 6)]) (g := (gName 6)) (tt := tYes) rfl sc_law_chain.nd (pi_range1 rfl T.b_range (pa_cons (pe_op op_sub (pv 1) pe_int) pa_nil)) (blkOk_by (N := ["_law_names_here", "_law_size", "_law_answer", "_law_spot", "_law_rows_here", "_law_k", "_law_state"]) (sc := defScope s_law_chain) (by decide +kernel)) (fun _ _ _ _ _ => (pg_name (i := 6) sc_law_chain.nd rfl (Or.inl rfl))) (fun _ _ _ _ _ => pts_nil) (fun _ _ _ _ _ => (pe_tup (pa_cons pe_int (pa_cons (pe_op op_add (pv 6) pe_int) pa_nil))))) (pe_lst (pa_cons (pe_tup (pa_cons (pv 2) (pa_cons (pe_op op_sub (pv 1) pe_int) pa_nil))) pa_nil))) rfl)) (pss_one (ps_if (pt_cmpR op_eq (pe_op op_mod (pe_callTy (T := "int") (r := rIv) call_int1 (by rfl) T.b_int (by decide +kernel) (pa_cons (pe_op op_add (pv 3) (pv 5)) pa_nil)) pe_int) pe_int (nomark _)) (pss_one (ps_dput hu (pv 4) (pe_ix (r := rIxL K) ix_list (pv 0) (pv 5) (fun _ _ => rfl)) (pe_op op_rep (pe_lst (pa_cons (pe_tup (pa_cons pe_int (pa_cons pe_int pa_nil))) pa_nil)) (pv 1)) rfl)) (pss_one (ps_dput hu (pv 4) (pe_ix (r := rIxL K) ix_list (pv 0) (pv 5) (fun _ _ => rfl)) (pe_lc (own := [("_law_state", 6)]) (g := (gName 6)) (tt := tYes) rfl sc_law_chain.nd (pi_range1 rfl T.b_range (pa_cons (pv 1) pa_nil)) (blkOk_by (N := ["_law_names_here", "_law_size", "_law_answer", "_law_spot", "_law_rows_here", "_law_k", "_law_state"]) (sc := defScope s_law_chain) (by decide +kernel)) (fun _ _ _ _ _ => (pg_name (i := 6) sc_law_chain.nd rfl (Or.inl rfl))) (fun _ _ _ _ _ => pts_nil) (fun _ _ _ _ _ => (pe_tup (pa_cons pe_int (pa_cons (pv 6) pa_nil))))) rfl)))))))
      (pss_one (ps_ret (pv 4))))), ?_⟩
    try simp (maxSteps := 1000000) only [tSeq, tIfS, tTest, tOp, tUn, tCB, tCons, tNil, tVar, tC, rI0, rI, rU, rEq, rNe, tRet, tRetN, tAsg, gName, gSub, tBM, tBM0, tNext, tB, tNot, tAnd, tOr, tIf, tCall, tDrop, tBreak, tCont, L2.start, tDGet, sDPut, tTup, tLst, tDNewK, tRevL, rCat, rAppend, rPop, rSetL, tAndV, tOrV, tNotV, tSl, tPart, tNoPart, tM1, gTup, gCons, gNil, cxK, cxnK, List.map_cons, List.map_nil, List.length_cons, List.length_nil, List.replicate, List.cons_append, List.nil_append, List.append_nil, List.set_cons_zero, List.set_cons_succ, List.getElem?_cons_zero, List.getElem?_cons_succ, Option.some.injEq, V.ref.injEq, V.int.injEq, V.str.injEq, V.bl.injEq, V.ty.injEq, exists_eq_left', exists_eq_left, exists_and_left, List.cons.injEq, and_true, true_and, sc_ii, sc_ss, sc_bb, sc_ni, sc_in, sc_is, sc_si, sc_nn, decide_true, decide_false, reduceCtorEq, Bool.false_eq_true, if_true, if_false, ite_true, ite_false, exists_const, eq_self, false_and, and_false, or_false, false_or, exists_false, Evl.rLenS, rSum, wipe, tYes, exists_eq, exists_eq', rIxL, rIxT, rIxS, exists_and_right, gt_iff_lt, not_true_eq_false, not_false_eq_true, Bool.not_true, Bool.not_false, decide_eq_true_eq, Nat.reduceSub, Nat.reduceAdd, List.append_assoc, tChain, tDIn, tDNotIn, sDDel, tAug, ipI, sDPut, rIv_int, rRep]
    intro r nr
    have kr := (Kp.new nr : Kp [] H (upd H r (.dK [])))
    refine forRg zs.length (fun k σ H' => (∃ c5 c6 : Option V, σ = [some (.ref nl), some (.int (sz : Nat)), some (.int an), some (.int (sp : Nat)), some (.ref r), c5, c6]) ∧ RwAt H' r (zs.take k) sz (chC zs sz an sp) ∧ Kp [] H H') (fun R q' => ?_) (by omega) (by omega) ⟨⟨_, _, rfl⟩, ⟨[], upd_same, rfl, fun i z e => by cases e⟩, kr⟩ ?_ ?_
    · try simp (maxSteps := 1000000) only [tSeq, tIfS, tTest, tOp, tUn, tCB, tCons, tNil, tVar, tC, rI0, rI, rU, rEq, rNe, tRet, tRetN, tAsg, gName, gSub, tBM, tBM0, tNext, tB, tNot, tAnd, tOr, tIf, tCall, tDrop, tBreak, tCont, L2.start, tDGet, sDPut, tTup, tLst, tDNewK, tRevL, rCat, rAppend, rPop, rSetL, tAndV, tOrV, tNotV, tSl, tPart, tNoPart, tM1, gTup, gCons, gNil, cxK, cxnK, List.map_cons, List.map_nil, List.length_cons, List.length_nil, List.replicate, List.cons_append, List.nil_append, List.append_nil, List.set_cons_zero, List.set_cons_succ, List.getElem?_cons_zero, List.getElem?_cons_succ, Option.some.injEq, V.ref.injEq, V.int.injEq, V.str.injEq, V.bl.injEq, V.ty.injEq, exists_eq_left', exists_eq_left, exists_and_left, List.cons.injEq, and_true, true_and, sc_ii, sc_ss, sc_bb, sc_ni, sc_in, sc_is, sc_si, sc_nn, decide_true, decide_false, reduceCtorEq, Bool.false_eq_true, if_true, if_false, ite_true, ite_false, exists_const, eq_self, false_and, and_false, or_false, false_or, exists_false, Evl.rLenS, rSum, wipe, tYes, exists_eq, exists_eq', rIxL, rIxT, rIxS, exists_and_right, gt_iff_lt, not_true_eq_false, not_false_eq_true, Bool.not_true, Bool.not_false, decide_eq_true_eq, Nat.reduceSub, Nat.reduceAdd, List.append_assoc, tChain, tDIn, tDNotIn, sDDel, tAug, ipI]
      refine ⟨_, .inl (sq_l (kr _ _ not0 hn)), ?_⟩
      rw [List.length_map]
      exact q'
    · rintro k σ H1 hk ⟨⟨c5, c6, rfl⟩, hR, k1⟩
      have ez := List.getElem?_eq_getElem hk
      generalize zs[k] = z at ez
      have izk := idx_at nd ez
      have zf : z ∉ zs.take k := nd_fresh nd ez
      have hn1 := k1 _ _ not0 hn
      have tl : (zs.take k).length ≤ 6 := by rw [List.length_take]; omega
      have az : atI (zs.map V.str) ((k : Nat) : Int) = some (.str z) := atI_nat (by rw [List.getElem?_map, ez]; rfl)
      try simp (maxSteps := 1000000) only [tSeq, tIfS, tTest, tOp, tUn, tCB, tCons, tNil, tVar, tC, rI0, rI, rU, rEq, rNe, tRet, tRetN, tAsg, gName, gSub, tBM, tBM0, tNext, tB, tNot, tAnd, tOr, tIf, tCall, tDrop, tBreak, tCont, L2.start, tDGet, sDPut, tTup, tLst, tDNewK, tRevL, rCat, rAppend, rPop, rSetL, tAndV, tOrV, tNotV, tSl, tPart, tNoPart, tM1, gTup, gCons, gNil, cxK, cxnK, List.map_cons, List.map_nil, List.length_cons, List.length_nil, List.replicate, List.cons_append, List.nil_append, List.append_nil, List.set_cons_zero, List.set_cons_succ, List.getElem?_cons_zero, List.getElem?_cons_succ, Option.some.injEq, V.ref.injEq, V.int.injEq, V.str.injEq, V.bl.injEq, V.ty.injEq, exists_eq_left', exists_eq_left, exists_and_left, List.cons.injEq, and_true, true_and, sc_ii, sc_ss, sc_bb, sc_ni, sc_in, sc_is, sc_si, sc_nn, decide_true, decide_false, reduceCtorEq, Bool.false_eq_true, if_true, if_false, ite_true, ite_false, exists_const, eq_self, false_and, and_false, or_false, false_or, exists_false, Evl.rLenS, rSum, wipe, tYes, exists_eq, exists_eq', rIxL, rIxT, rIxS, exists_and_right, gt_iff_lt, not_true_eq_false, not_false_eq_true, Bool.not_true, Bool.not_false, decide_eq_true_eq, Nat.reduceSub, Nat.reduceAdd, List.append_assoc, tChain, tDIn, tDNotIn, sDDel, tAug, ipI, sDPut, rIv_int, rRep]
      have put : ∀ (p2 : Addr) (H3 : Hp) (xs : List V), Kp [] H1 H3 → H3 p2 = some (.lst xs) → Cells (chC zs sz an sp z) xs sz H3 → ∃ x, SqL K H3 nl x ∧ ∃ x1, atI x ((k : Nat) : Int) = some x1 ∧ ∃ x2, DPut H3 r x1 (.ref p2) x2 ∧ RwAt x2 r (zs.take (k + 1)) sz (chC zs sz an sp) ∧ Kp [] H x2 := fun p2 H3 xs k3 hp hc => by
        obtain ⟨kv, hkv, lkv, hR'⟩ := hR.add k3 zf hp hc
        rw [← take_snoc ez] at hR'
        exact ⟨_, sq_l (k3 _ _ not0 hn1), _, az, _, .inl ⟨kv, Sum.inr z, hkv, rfl, smallL (by omega), rfl⟩, hR', (k1.trans k3).wr nr⟩
      have one : (1 : Nat) ≤ sizeLine := by rw [sizeLine_eq]; decide
      have two : (2 : Nat) ≤ sizeLine := by rw [sizeLine_eq]; decide
      by_cases e1 : k = sp
      · rw [if_pos (by rw [e1])]
        refine lcRgN (sz - 1) (by omega) (fun D i H' => ∃ us, H' D = some (.lst us) ∧ Cells (chC zs sz an sp z) us i H' ∧ Kp [] H1 H') ?_ ?_ ?_ ?_
        · intro R q'
          try simp (maxSteps := 1000000) only [tSeq, tIfS, tTest, tOp, tUn, tCB, tCons, tNil, tVar, tC, rI0, rI, rU, rEq, rNe, tRet, tRetN, tAsg, gName, gSub, tBM, tBM0, tNext, tB, tNot, tAnd, tOr, tIf, tCall, tDrop, tBreak, tCont, L2.start, tDGet, sDPut, tTup, tLst, tDNewK, tRevL, rCat, rAppend, rPop, rSetL, tAndV, tOrV, tNotV, tSl, tPart, tNoPart, tM1, gTup, gCons, gNil, cxK, cxnK, List.map_cons, List.map_nil, List.length_cons, List.length_nil, List.replicate, List.cons_append, List.nil_append, List.append_nil, List.set_cons_zero, List.set_cons_succ, List.getElem?_cons_zero, List.getElem?_cons_succ, Option.some.injEq, V.ref.injEq, V.int.injEq, V.str.injEq, V.bl.injEq, V.ty.injEq, exists_eq_left', exists_eq_left, exists_and_left, List.cons.injEq, and_true, true_and, sc_ii, sc_ss, sc_bb, sc_ni, sc_in, sc_is, sc_si, sc_nn, decide_true, decide_false, reduceCtorEq, Bool.false_eq_true, if_true, if_false, ite_true, ite_false, exists_const, eq_self, false_and, and_false, or_false, false_or, exists_false, Evl.rLenS, rSum, wipe, tYes, exists_eq, exists_eq', rIxL, rIxT, rIxS, exists_and_right, gt_iff_lt, not_true_eq_false, not_false_eq_true, Bool.not_true, Bool.not_false, decide_eq_true_eq, Nat.reduceSub, Nat.reduceAdd, List.append_assoc, tChain, tDIn, tDNotIn, sDDel, tAug, ipI]
          rw [show ((sz : Nat) : Int) - 1 = ((sz - 1 : Nat) : Int) by omega]
          exact q'
        · intro D nD
          exact ⟨[], upd_same, ⟨rfl, fun s hs => absurd hs (by omega)⟩, Kp.new nD⟩
        · rintro D i H2 nD hi ⟨us, hD, hus, k2⟩
          try simp (maxSteps := 1000000) only [tSeq, tIfS, tTest, tOp, tUn, tCB, tCons, tNil, tVar, tC, rI0, rI, rU, rEq, rNe, tRet, tRetN, tAsg, gName, gSub, tBM, tBM0, tNext, tB, tNot, tAnd, tOr, tIf, tCall, tDrop, tBreak, tCont, L2.start, tDGet, sDPut, tTup, tLst, tDNewK, tRevL, rCat, rAppend, rPop, rSetL, tAndV, tOrV, tNotV, tSl, tPart, tNoPart, tM1, gTup, gCons, gNil, cxK, cxnK, List.map_cons, List.map_nil, List.length_cons, List.length_nil, List.replicate, List.cons_append, List.nil_append, List.append_nil, List.set_cons_zero, List.set_cons_succ, List.getElem?_cons_zero, List.getElem?_cons_succ, Option.some.injEq, V.ref.injEq, V.int.injEq, V.str.injEq, V.bl.injEq, V.ty.injEq, exists_eq_left', exists_eq_left, exists_and_left, List.cons.injEq, and_true, true_and, sc_ii, sc_ss, sc_bb, sc_ni, sc_in, sc_is, sc_si, sc_nn, decide_true, decide_false, reduceCtorEq, Bool.false_eq_true, if_true, if_false, ite_true, ite_false, exists_const, eq_self, false_and, and_false, or_false, false_or, exists_false, Evl.rLenS, rSum, wipe, tYes, exists_eq, exists_eq', rIxL, rIxT, rIxS, exists_and_right, gt_iff_lt, not_true_eq_false, not_false_eq_true, Bool.not_true, Bool.not_false, decide_eq_true_eq, Nat.reduceSub, Nat.reduceAdd, List.append_assoc, tChain, tDIn, tDNotIn, sDDel, tAug, ipI]
          refine ⟨two, fun q1 nq => ?_⟩
          have kq : Kp [] H2 (upd H2 q1 (.tup [.int 0, .int ((i : Nat) + 1)])) := Kp.new nq
          have hD2 := kq _ _ not0 hD
          refine ⟨us, hD2, smallL (by rw [hus.1]; omega), us ++ [.ref q1], upd_same, Cells.putL (Cells.snoc (hus.kp kq) ?_) hD2, (k2.trans kq).wr nD⟩
          unfold chC
          rw [if_pos (izk.trans e1), if_pos (by omega)]
          exact upd_same
        · rintro D H2 nD ⟨us, hD, hus, k2⟩
          refine ⟨two, fun p np => ⟨one, fun p1 np1 => ?_⟩⟩
          have kA := (Kp.new (S := []) np (o := .tup [.int an, .int ((sz : Nat) - 1)]))
          have kB := kA.trans (Kp.new np1 (o := .lst [.ref p]))
          have hp := (Kp.new np1 (S := []) (o := .lst [.ref p])) _ _ not0 (upd_same (H := H2) (a := p) (o := .tup [.int an, .int ((sz : Nat) - 1)]))
          have hp1 : (upd (upd H2 p (.tup [.int an, .int ((sz : Nat) - 1)])) p1 (.lst [.ref p])) p1 = some (.lst [.ref p]) := upd_same
          generalize upd (upd H2 p (.tup [.int an, .int ((sz : Nat) - 1)])) p1 (.lst [.ref p]) = H3 at kB hp hp1 ⊢
          refine ⟨D, rfl, us, kB _ _ not0 hD, _, hp1, (by have s5 := smallL (n := 200) (by decide); rw [hus.1]; show sz - 1 + 1 ≤ _; omega), fun p2 np2 => ?_⟩
          have kC := kB.trans (Kp.new np2 (o := .lst (us ++ [.ref p])))
          have hp3 := (Kp.new np2 (S := []) (o := .lst (us ++ [.ref p]))) _ _ not0 hp
          refine put p2 _ _ (k2.trans kC) upd_same ?_
          have cN := Cells.snoc (hus.kp kC) (p := p) (by
            unfold chC
            rw [if_pos (izk.trans e1), if_neg (by omega), show ((sz - 1 : Nat) : Int) = ((sz : Nat) : Int) - 1 by omega]
            exact hp3)
          rw [show sz - 1 + 1 = sz by omega] at cN
          exact cN
      · rw [if_neg (by omega)]
        refine ⟨by decide, ?_⟩
        by_cases e2 : (sp + k) % 2 = 0
        · rw [if_pos (by omega)]
          refine ⟨two, fun p np => ⟨one, fun p1 np1 => ?_⟩⟩
          have kA := (Kp.new (S := []) np (o := .tup [.int 0, .int 0]))
          have kB := kA.trans (Kp.new np1 (o := .lst [.ref p]))
          have hp := (Kp.new np1 (S := []) (o := .lst [.ref p])) _ _ not0 (upd_same (H := H1) (a := p) (o := .tup [.int 0, .int 0]))
          have hp1 : (upd (upd H1 p (.tup [.int 0, .int 0])) p1 (.lst [.ref p])) p1 = some (.lst [.ref p]) := upd_same
          generalize upd (upd H1 p (.tup [.int 0, .int 0])) p1 (.lst [.ref p]) = H3 at kB hp hp1 ⊢
          refine ⟨_, hp1, by omega, by omega, by rw [sizeLine_eq, Int.toNat_natCast]; show 1 * sz ≤ _; omega, fun p2 np2 => ?_⟩
          rw [rep_flatR, Int.toNat_natCast]
          have kC := kB.trans (Kp.new np2 (o := .lst (List.replicate sz (.ref p))))
          have hp3 := (Kp.new np2 (S := []) (o := .lst (List.replicate sz (.ref p)))) _ _ not0 hp
          refine put p2 _ _ kC upd_same ⟨List.length_replicate, fun s hs => ⟨p, by rw [List.getElem?_replicate, if_pos hs], ?_⟩⟩
          unfold chC
          rw [if_neg (by rw [izk]; exact e1), if_pos (by rw [izk]; exact e2)]
          exact hp3
        · rw [if_neg (by omega)]
          refine lcRgN sz (by omega) (fun D i H' => ∃ us, H' D = some (.lst us) ∧ Cells (chC zs sz an sp z) us i H' ∧ Kp [] H1 H') ?_ ?_ ?_ ?_
          · intro R q'
            exact ⟨_, rfl, q'⟩
          · intro D nD
            exact ⟨[], upd_same, ⟨rfl, fun s hs => absurd hs (by omega)⟩, Kp.new nD⟩
          · rintro D i H2 nD hi ⟨us, hD, hus, k2⟩
            try simp (maxSteps := 1000000) only [tSeq, tIfS, tTest, tOp, tUn, tCB, tCons, tNil, tVar, tC, rI0, rI, rU, rEq, rNe, tRet, tRetN, tAsg, gName, gSub, tBM, tBM0, tNext, tB, tNot, tAnd, tOr, tIf, tCall, tDrop, tBreak, tCont, L2.start, tDGet, sDPut, tTup, tLst, tDNewK, tRevL, rCat, rAppend, rPop, rSetL, tAndV, tOrV, tNotV, tSl, tPart, tNoPart, tM1, gTup, gCons, gNil, cxK, cxnK, List.map_cons, List.map_nil, List.length_cons, List.length_nil, List.replicate, List.cons_append, List.nil_append, List.append_nil, List.set_cons_zero, List.set_cons_succ, List.getElem?_cons_zero, List.getElem?_cons_succ, Option.some.injEq, V.ref.injEq, V.int.injEq, V.str.injEq, V.bl.injEq, V.ty.injEq, exists_eq_left', exists_eq_left, exists_and_left, List.cons.injEq, and_true, true_and, sc_ii, sc_ss, sc_bb, sc_ni, sc_in, sc_is, sc_si, sc_nn, decide_true, decide_false, reduceCtorEq, Bool.false_eq_true, if_true, if_false, ite_true, ite_false, exists_const, eq_self, false_and, and_false, or_false, false_or, exists_false, Evl.rLenS, rSum, wipe, tYes, exists_eq, exists_eq', rIxL, rIxT, rIxS, exists_and_right, gt_iff_lt, not_true_eq_false, not_false_eq_true, Bool.not_true, Bool.not_false, decide_eq_true_eq, Nat.reduceSub, Nat.reduceAdd, List.append_assoc, tChain, tDIn, tDNotIn, sDDel, tAug, ipI]
            refine ⟨two, fun q1 nq => ?_⟩
            have kq : Kp [] H2 (upd H2 q1 (.tup [.int 0, .int (i : Nat)])) := Kp.new nq
            have hD2 := kq _ _ not0 hD
            refine ⟨us, hD2, smallL (by rw [hus.1]; omega), us ++ [.ref q1], upd_same, Cells.putL (Cells.snoc (hus.kp kq) ?_) hD2, (k2.trans kq).wr nD⟩
            unfold chC
            rw [if_neg (by rw [izk]; exact e1), if_neg (by rw [izk]; exact e2)]
            exact upd_same
          · rintro D H2 nD ⟨us, hD, hus, k2⟩
            exact put D H2 us k2 hD hus
    · rintro σ H1 ⟨⟨c5, c6, rfl⟩, hR, k1⟩
      rw [List.take_length] at hR
      try simp (maxSteps := 1000000) only [tSeq, tIfS, tTest, tOp, tUn, tCB, tCons, tNil, tVar, tC, rI0, rI, rU, rEq, rNe, tRet, tRetN, tAsg, gName, gSub, tBM, tBM0, tNext, tB, tNot, tAnd, tOr, tIf, tCall, tDrop, tBreak, tCont, L2.start, tDGet, sDPut, tTup, tLst, tDNewK, tRevL, rCat, rAppend, rPop, rSetL, tAndV, tOrV, tNotV, tSl, tPart, tNoPart, tM1, gTup, gCons, gNil, cxK, cxnK, List.map_cons, List.map_nil, List.length_cons, List.length_nil, List.replicate, List.cons_append, List.nil_append, List.append_nil, List.set_cons_zero, List.set_cons_succ, List.getElem?_cons_zero, List.getElem?_cons_succ, Option.some.injEq, V.ref.injEq, V.int.injEq, V.str.injEq, V.bl.injEq, V.ty.injEq, exists_eq_left', exists_eq_left, exists_and_left, List.cons.injEq, and_true, true_and, sc_ii, sc_ss, sc_bb, sc_ni, sc_in, sc_is, sc_si, sc_nn, decide_true, decide_false, reduceCtorEq, Bool.false_eq_true, if_true, if_false, ite_true, ite_false, exists_const, eq_self, false_and, and_false, or_false, false_or, exists_false, Evl.rLenS, rSum, wipe, tYes, exists_eq, exists_eq', rIxL, rIxT, rIxS, exists_and_right, gt_iff_lt, not_true_eq_false, not_false_eq_true, Bool.not_true, Bool.not_false, decide_eq_true_eq, Nat.reduceSub, Nat.reduceAdd, List.append_assoc, tChain, tDIn, tDNotIn, sDDel, tAug, ipI]
      exact q r H1 nr hR k1
end
end My

set_option Elab.async false
set_option linter.all false
set_option maxRecDepth 100000
set_option maxHeartbeats 4000000
namespace My
open PySem L2 NdefX StX
abbrev s_law_refused : Stmt := top 41
theorem sc_law_refused : FnScope ["_law_way", "_law_one", "_law_two", "e"] ["_law_way", "_law_one", "_law_two"] (defScope s_law_refused) := ⟨rfl, rfl, rfl, by decide +kernel, rfl, by decide +kernel, by decide +kernel⟩
structure BtO (K : PySem.W.Frag) (mg : Str → Option Value) (CE NO ON : Addr) : Prop where
  b_isinstance : mg "isinstance" = none
  b_ValueError : mg "ValueError" = none
  k_CoreError : mg "CoreError" = some (.ref CE)
  k_OtherNames : mg "OtherNames" = some (.ref ON)
  k_NoOperation : mg "NoOperation" = some (.ref NO)
  EXO : PySem.W.exmOne K (.ref ON) (.ref ON) = some true
  kcO : ExcC K ON
  o1 : PySem.W.kitOne K (.ref ON) (.ref CE) = some true
  o2 : PySem.W.kitOne K (.ref ON) (.type "ValueError") = some true
  o3 : PySem.W.kitOne K (.ref ON) (.ref NO) = some false
section
variable {P : Program} {w : World} {K : PySem.W.Frag} {mg : Str → Option Value} {base : Heap}
def spRfd (TC : Addr) : Sp := fun vs H Q _ => ∃ (way : Int) (oa ob : Addr) (m n f0 g0 : Nat) (zs zs' : List Str) (c c' : Str → Nat → Int × Int), vs = [.int way, .ref oa, .ref ob] ∧ TabIs TC H oa zs m (f0 : Nat) c ∧ TabIs TC H ob zs' n (g0 : Nat) c' ∧ ¬ zs'.Perm zs ∧ ∀ H', Kp [] H H' → Q (.bl true) H'
theorem ok_law_refused {f : Addr} {fd : FuncData} (D : Df K mg "_law_refused" s_law_refused ["_law_way", "_law_one", "_law_two"] f fd) {CE NO ON TC : Addr} (T : BtO K mg CE NO ON) {f1 : Addr} {fd1 : FuncData} (D_alike : Df K mg "alike" s_alike ["a", "b"] f1 fd1) (G_alike : FnOk P w K mg base (L2.CX P w) 8 f1 fd1 ["a", "b"] (spAlike TC ON))
    {f2 : Addr} {fd2 : FuncData} (D_parting : Df K mg "parting" s_parting ["a", "b"] f2 fd2) (G_parting : FnOk P w K mg base (L2.CX P w) 7 f2 fd2 ["a", "b"] (spPart TC ON)) {f3 : Addr} {fd3 : FuncData} (D_likeness : Df K mg "likeness" s_likeness ["a", "b"] f3 fd3) (G_likeness : FnOk P w K mg base (L2.CX P w) 7 f3 fd3 ["a", "b"] (spLike TC ON)) : FnOk P w K mg base CX0 9 f fd ["_law_way", "_law_one", "_law_two"] (spRfd TC) := by
  refine D.F.ok sc_law_refused (fun vs H Q E h => ?_) (fun cdv A outer s H vs Q E hr h => ?_)
  · obtain ⟨_, _, _, _, _, _, _, _, _, _, _, rfl, _⟩ := h
    rfl
  · obtain ⟨way, oa, ob, m, n, f0, g0, zs, zs', c, c', rfl, hA, hB, np, q⟩ := h
    refine ⟨_, (pss_cons (ps_try_as (i := 3) rfl rfl sc_law_refused.nd rfl rfl ⟨rfl, by decide, .inl T.k_OtherNames⟩ takes0 (fun W pn xe tk _ => (pss_one (ps_if (pt_cmpR op_eq (pv 0) pe_int (nomark _)) (pss_one (ps_expr (pe_callS G_alike (hr.mono (by decide)) rfl D_alike.g D_alike.F.kp D_alike.b (fun σ => passAt tk σ) (pa_cons (pv 1) (pa_cons (pv 2) pa_nil))))) (pss_one (ps_if (pt_cmpR op_eq (pv 0) pe_int (nomark _)) (pss_one (ps_expr (pe_callS G_parting (hr.mono (by decide)) rfl D_parting.g D_parting.F.kp D_parting.b (fun σ => passAt tk σ) (pa_cons (pv 1) (pa_cons (pv 2) pa_nil))))) (pss_one (ps_expr (pe_callS G_likeness (hr.mono (by decide)) rfl D_likeness.g D_likeness.F.kp D_likeness.b (fun σ => passAt tk σ) (pa_cons (pv 1) (pa_cons (pv 2) pa_nil)))))))))) (fun a oe cls d pn hz hf => (pss_one (ps_ret (pe_and (pe_callB (id := "isinstance") (r := rIsX0 K a cls d) (call_isX0 hz hf) (by rfl) T.b_isinstance (by decide +kernel) (pa_cons (pv 3) (pa_cons (pe_glob (v := .ref CE) rfl T.k_CoreError rfl) pa_nil))) (pe_and (pe_callB (id := "isinstance") (r := rIsX0 K a cls d) (call_isX0 hz hf) (by rfl) T.b_isinstance (by decide +kernel) (pa_cons (pv 3) (pa_cons (pe_bltn (v := .ty "ValueError") (by rfl) T.b_ValueError (by decide +kernel) rfl) pa_nil))) (pe_one (pe_not (pe_callB (id := "isinstance") (r := rIsX0 K a cls d) (call_isX0 hz hf) (by rfl) T.b_isinstance (by decide +kernel) (pa_cons (pv 3) (pa_cons (pe_glob (v := .ref NO) rfl T.k_NoOperation rfl) pa_nil)))))))))))
      (pss_one (ps_ret pe_bl))), ?_⟩
    try simp (maxSteps := 1000000) only [tSeq, tIfS, tTest, tOp, tUn, tCB, tCons, tNil, tVar, tC, rI0, rI, rU, rEq, rNe, tRet, tRetN, tAsg, gName, gSub, tBM, tBM0, tNext, tB, tNot, tAnd, tOr, tIf, tCall, tDrop, tBreak, tCont, L2.start, tDGet, sDPut, tTup, tLst, tDNewK, tRevL, rCat, rAppend, rPop, rSetL, tAndV, tOrV, tNotV, tSl, tPart, tNoPart, tM1, gTup, gCons, gNil, cxK, cxnK, List.map_cons, List.map_nil, List.length_cons, List.length_nil, List.replicate, List.cons_append, List.nil_append, List.append_nil, List.set_cons_zero, List.set_cons_succ, List.getElem?_cons_zero, List.getElem?_cons_succ, Option.some.injEq, V.ref.injEq, V.int.injEq, V.str.injEq, V.bl.injEq, V.ty.injEq, exists_eq_left', exists_eq_left, exists_and_left, List.cons.injEq, and_true, true_and, sc_ii, sc_ss, sc_bb, sc_ni, sc_in, sc_is, sc_si, sc_nn, decide_true, decide_false, reduceCtorEq, Bool.false_eq_true, if_true, if_false, ite_true, ite_false, exists_const, eq_self, false_and, and_false, or_false, false_or, exists_false, Evl.rLenS, rSum, wipe, tYes, exists_eq, exists_eq', rIxL, rIxT, rIxS, exists_and_right, gt_iff_lt, not_true_eq_false, not_false_eq_true, Bool.not_true, Bool.not_false, decide_eq_true_eq, Nat.reduceSub, Nat.reduceAdd, List.append_assoc, tChain, tDIn, tDNotIn, sDDel, tAug, ipI]
    by_cases w0 : way = 0
    · rw [if_pos w0]
      try simp (maxSteps := 1000000) only [tSeq, tIfS, tTest, tOp, tUn, tCB, tCons, tNil, tVar, tC, rI0, rI, rU, rEq, rNe, tRet, tRetN, tAsg, gName, gSub, tBM, tBM0, tNext, tB, tNot, tAnd, tOr, tIf, tCall, tDrop, tBreak, tCont, L2.start, tDGet, sDPut, tTup, tLst, tDNewK, tRevL, rCat, rAppend, rPop, rSetL, tAndV, tOrV, tNotV, tSl, tPart, tNoPart, tM1, gTup, gCons, gNil, cxK, cxnK, List.map_cons, List.map_nil, List.length_cons, List.length_nil, List.replicate, List.cons_append, List.nil_append, List.append_nil, List.set_cons_zero, List.set_cons_succ, List.getElem?_cons_zero, List.getElem?_cons_succ, Option.some.injEq, V.ref.injEq, V.int.injEq, V.str.injEq, V.bl.injEq, V.ty.injEq, exists_eq_left', exists_eq_left, exists_and_left, List.cons.injEq, and_true, true_and, sc_ii, sc_ss, sc_bb, sc_ni, sc_in, sc_is, sc_si, sc_nn, decide_true, decide_false, reduceCtorEq, Bool.false_eq_true, if_true, if_false, ite_true, ite_false, exists_const, eq_self, false_and, and_false, or_false, false_or, exists_false, Evl.rLenS, rSum, wipe, tYes, exists_eq, exists_eq', rIxL, rIxT, rIxS, exists_and_right, gt_iff_lt, not_true_eq_false, not_false_eq_true, Bool.not_true, Bool.not_false, decide_eq_true_eq, Nat.reduceSub, Nat.reduceAdd, List.append_assoc, tChain, tDIn, tDNotIn, sDDel, tAug, ipI, tCallS]
      refine ⟨oa, ob, m, n, f0, g0, zs, zs', c, c', rfl, hA, hB, fun hp => absurd hp np, fun _ H' k => ?_⟩
      refine ⟨true, T.EXO, fun _ y ny => ?_, fun z => by cases z⟩
      try simp (maxSteps := 1000000) only [tSeq, tIfS, tTest, tOp, tUn, tCB, tCons, tNil, tVar, tC, rI0, rI, rU, rEq, rNe, tRet, tRetN, tAsg, gName, gSub, tBM, tBM0, tNext, tB, tNot, tAnd, tOr, tIf, tCall, tDrop, tBreak, tCont, L2.start, tDGet, sDPut, tTup, tLst, tDNewK, tRevL, rCat, rAppend, rPop, rSetL, tAndV, tOrV, tNotV, tSl, tPart, tNoPart, tM1, gTup, gCons, gNil, cxK, cxnK, List.map_cons, List.map_nil, List.length_cons, List.length_nil, List.replicate, List.cons_append, List.nil_append, List.append_nil, List.set_cons_zero, List.set_cons_succ, List.getElem?_cons_zero, List.getElem?_cons_succ, Option.some.injEq, V.ref.injEq, V.int.injEq, V.str.injEq, V.bl.injEq, V.ty.injEq, exists_eq_left', exists_eq_left, exists_and_left, List.cons.injEq, and_true, true_and, sc_ii, sc_ss, sc_bb, sc_ni, sc_in, sc_is, sc_si, sc_nn, decide_true, decide_false, reduceCtorEq, Bool.false_eq_true, if_true, if_false, ite_true, ite_false, exists_const, eq_self, false_and, and_false, or_false, false_or, exists_false, Evl.rLenS, rSum, wipe, tYes, exists_eq, exists_eq', rIxL, rIxT, rIxS, exists_and_right, gt_iff_lt, not_true_eq_false, not_false_eq_true, Bool.not_true, Bool.not_false, decide_eq_true_eq, Nat.reduceSub, Nat.reduceAdd, List.append_assoc, tChain, tDIn, tDNotIn, sDDel, tAug, ipI]
      refine ⟨.ref CE, .ref CE, true, ON, rfl, fun u h => h, rfl, rfl, T.kcO, T.o1, true, rfl, ?_⟩
      try simp (maxSteps := 1000000) only [tSeq, tIfS, tTest, tOp, tUn, tCB, tCons, tNil, tVar, tC, rI0, rI, rU, rEq, rNe, tRet, tRetN, tAsg, gName, gSub, tBM, tBM0, tNext, tB, tNot, tAnd, tOr, tIf, tCall, tDrop, tBreak, tCont, L2.start, tDGet, sDPut, tTup, tLst, tDNewK, tRevL, rCat, rAppend, rPop, rSetL, tAndV, tOrV, tNotV, tSl, tPart, tNoPart, tM1, gTup, gCons, gNil, cxK, cxnK, List.map_cons, List.map_nil, List.length_cons, List.length_nil, List.replicate, List.cons_append, List.nil_append, List.append_nil, List.set_cons_zero, List.set_cons_succ, List.getElem?_cons_zero, List.getElem?_cons_succ, Option.some.injEq, V.ref.injEq, V.int.injEq, V.str.injEq, V.bl.injEq, V.ty.injEq, exists_eq_left', exists_eq_left, exists_and_left, List.cons.injEq, and_true, true_and, sc_ii, sc_ss, sc_bb, sc_ni, sc_in, sc_is, sc_si, sc_nn, decide_true, decide_false, reduceCtorEq, Bool.false_eq_true, if_true, if_false, ite_true, ite_false, exists_const, eq_self, false_and, and_false, or_false, false_or, exists_false, Evl.rLenS, rSum, wipe, tYes, exists_eq, exists_eq', rIxL, rIxT, rIxS, exists_and_right, gt_iff_lt, not_true_eq_false, not_false_eq_true, Bool.not_true, Bool.not_false, decide_eq_true_eq, Nat.reduceSub, Nat.reduceAdd, List.append_assoc, tChain, tDIn, tDNotIn, sDDel, tAug, ipI]
      refine ⟨.ty "ValueError", .type "ValueError", true, ON, rfl, fun u h => h, rfl, rfl, T.kcO, T.o2, true, rfl, ?_⟩
      rw [if_pos rfl]
      exact ⟨.ref NO, .ref NO, false, ON, rfl, fun u h => h, rfl, rfl, T.kcO, T.o3, false, rfl, q _ k⟩
    · rw [if_neg w0]
      by_cases w1 : way = 1
      · rw [if_pos w1]
        try simp (maxSteps := 1000000) only [tSeq, tIfS, tTest, tOp, tUn, tCB, tCons, tNil, tVar, tC, rI0, rI, rU, rEq, rNe, tRet, tRetN, tAsg, gName, gSub, tBM, tBM0, tNext, tB, tNot, tAnd, tOr, tIf, tCall, tDrop, tBreak, tCont, L2.start, tDGet, sDPut, tTup, tLst, tDNewK, tRevL, rCat, rAppend, rPop, rSetL, tAndV, tOrV, tNotV, tSl, tPart, tNoPart, tM1, gTup, gCons, gNil, cxK, cxnK, List.map_cons, List.map_nil, List.length_cons, List.length_nil, List.replicate, List.cons_append, List.nil_append, List.append_nil, List.set_cons_zero, List.set_cons_succ, List.getElem?_cons_zero, List.getElem?_cons_succ, Option.some.injEq, V.ref.injEq, V.int.injEq, V.str.injEq, V.bl.injEq, V.ty.injEq, exists_eq_left', exists_eq_left, exists_and_left, List.cons.injEq, and_true, true_and, sc_ii, sc_ss, sc_bb, sc_ni, sc_in, sc_is, sc_si, sc_nn, decide_true, decide_false, reduceCtorEq, Bool.false_eq_true, if_true, if_false, ite_true, ite_false, exists_const, eq_self, false_and, and_false, or_false, false_or, exists_false, Evl.rLenS, rSum, wipe, tYes, exists_eq, exists_eq', rIxL, rIxT, rIxS, exists_and_right, gt_iff_lt, not_true_eq_false, not_false_eq_true, Bool.not_true, Bool.not_false, decide_eq_true_eq, Nat.reduceSub, Nat.reduceAdd, List.append_assoc, tChain, tDIn, tDNotIn, sDDel, tAug, ipI, tCallS]
        refine ⟨oa, ob, m, n, f0, g0, zs, zs', c, c', rfl, hA, hB, fun hp => absurd hp np, fun hp => absurd hp np, fun _ H' k => ?_⟩
        refine ⟨true, T.EXO, fun _ y ny => ?_, fun z => by cases z⟩
        try simp (maxSteps := 1000000) only [tSeq, tIfS, tTest, tOp, tUn, tCB, tCons, tNil, tVar, tC, rI0, rI, rU, rEq, rNe, tRet, tRetN, tAsg, gName, gSub, tBM, tBM0, tNext, tB, tNot, tAnd, tOr, tIf, tCall, tDrop, tBreak, tCont, L2.start, tDGet, sDPut, tTup, tLst, tDNewK, tRevL, rCat, rAppend, rPop, rSetL, tAndV, tOrV, tNotV, tSl, tPart, tNoPart, tM1, gTup, gCons, gNil, cxK, cxnK, List.map_cons, List.map_nil, List.length_cons, List.length_nil, List.replicate, List.cons_append, List.nil_append, List.append_nil, List.set_cons_zero, List.set_cons_succ, List.getElem?_cons_zero, List.getElem?_cons_succ, Option.some.injEq, V.ref.injEq, V.int.injEq, V.str.injEq, V.bl.injEq, V.ty.injEq, exists_eq_left', exists_eq_left, exists_and_left, List.cons.injEq, and_true, true_and, sc_ii, sc_ss, sc_bb, sc_ni, sc_in, sc_is, sc_si, sc_nn, decide_true, decide_false, reduceCtorEq, Bool.false_eq_true, if_true, if_false, ite_true, ite_false, exists_const, eq_self, false_and, and_false, or_false, false_or, exists_false, Evl.rLenS, rSum, wipe, tYes, exists_eq, exists_eq', rIxL, rIxT, rIxS, exists_and_right, gt_iff_lt, not_true_eq_false, not_false_eq_true, Bool.not_true, Bool.not_false, decide_eq_true_eq, Nat.reduceSub, Nat.reduceAdd, List.append_assoc, tChain, tDIn, tDNotIn, sDDel, tAug, ipI]
        refine ⟨.ref CE, .ref CE, true, ON, rfl, fun u h => h, rfl, rfl, T.kcO, T.o1, true, rfl, ?_⟩
        try simp (maxSteps := 1000000) only [tSeq, tIfS, tTest, tOp, tUn, tCB, tCons, tNil, tVar, tC, rI0, rI, rU, rEq, rNe, tRet, tRetN, tAsg, gName, gSub, tBM, tBM0, tNext, tB, tNot, tAnd, tOr, tIf, tCall, tDrop, tBreak, tCont, L2.start, tDGet, sDPut, tTup, tLst, tDNewK, tRevL, rCat, rAppend, rPop, rSetL, tAndV, tOrV, tNotV, tSl, tPart, tNoPart, tM1, gTup, gCons, gNil, cxK, cxnK, List.map_cons, List.map_nil, List.length_cons, List.length_nil, List.replicate, List.cons_append, List.nil_append, List.append_nil, List.set_cons_zero, List.set_cons_succ, List.getElem?_cons_zero, List.getElem?_cons_succ, Option.some.injEq, V.ref.injEq, V.int.injEq, V.str.injEq, V.bl.injEq, V.ty.injEq, exists_eq_left', exists_eq_left, exists_and_left, List.cons.injEq, and_true, true_and, sc_ii, sc_ss, sc_bb, sc_ni, sc_in, sc_is, sc_si, sc_nn, decide_true, decide_false, reduceCtorEq, Bool.false_eq_true, if_true, if_false, ite_true, ite_false, exists_const, eq_self, false_and, and_false, or_false, false_or, exists_false, Evl.rLenS, rSum, wipe, tYes, exists_eq, exists_eq', rIxL, rIxT, rIxS, exists_and_right, gt_iff_lt, not_true_eq_false, not_false_eq_true, Bool.not_true, Bool.not_false, decide_eq_true_eq, Nat.reduceSub, Nat.reduceAdd, List.append_assoc, tChain, tDIn, tDNotIn, sDDel, tAug, ipI]
        refine ⟨.ty "ValueError", .type "ValueError", true, ON, rfl, fun u h => h, rfl, rfl, T.kcO, T.o2, true, rfl, ?_⟩
        rw [if_pos rfl]
        exact ⟨.ref NO, .ref NO, false, ON, rfl, fun u h => h, rfl, rfl, T.kcO, T.o3, false, rfl, q _ k⟩
      · rw [if_neg w1]
        try simp (maxSteps := 1000000) only [tSeq, tIfS, tTest, tOp, tUn, tCB, tCons, tNil, tVar, tC, rI0, rI, rU, rEq, rNe, tRet, tRetN, tAsg, gName, gSub, tBM, tBM0, tNext, tB, tNot, tAnd, tOr, tIf, tCall, tDrop, tBreak, tCont, L2.start, tDGet, sDPut, tTup, tLst, tDNewK, tRevL, rCat, rAppend, rPop, rSetL, tAndV, tOrV, tNotV, tSl, tPart, tNoPart, tM1, gTup, gCons, gNil, cxK, cxnK, List.map_cons, List.map_nil, List.length_cons, List.length_nil, List.replicate, List.cons_append, List.nil_append, List.append_nil, List.set_cons_zero, List.set_cons_succ, List.getElem?_cons_zero, List.getElem?_cons_succ, Option.some.injEq, V.ref.injEq, V.int.injEq, V.str.injEq, V.bl.injEq, V.ty.injEq, exists_eq_left', exists_eq_left, exists_and_left, List.cons.injEq, and_true, true_and, sc_ii, sc_ss, sc_bb, sc_ni, sc_in, sc_is, sc_si, sc_nn, decide_true, decide_false, reduceCtorEq, Bool.false_eq_true, if_true, if_false, ite_true, ite_false, exists_const, eq_self, false_and, and_false, or_false, false_or, exists_false, Evl.rLenS, rSum, wipe, tYes, exists_eq, exists_eq', rIxL, rIxT, rIxS, exists_and_right, gt_iff_lt, not_true_eq_false, not_false_eq_true, Bool.not_true, Bool.not_false, decide_eq_true_eq, Nat.reduceSub, Nat.reduceAdd, List.append_assoc, tChain, tDIn, tDNotIn, sDDel, tAug, ipI, tCallS]
        refine ⟨oa, ob, m, n, f0, g0, zs, zs', c, c', rfl, hA, hB, fun hp => absurd hp np, fun hp => absurd hp np, fun _ H' k => ?_⟩
        refine ⟨true, T.EXO, fun _ y ny => ?_, fun z => by cases z⟩
        try simp (maxSteps := 1000000) only [tSeq, tIfS, tTest, tOp, tUn, tCB, tCons, tNil, tVar, tC, rI0, rI, rU, rEq, rNe, tRet, tRetN, tAsg, gName, gSub, tBM, tBM0, tNext, tB, tNot, tAnd, tOr, tIf, tCall, tDrop, tBreak, tCont, L2.start, tDGet, sDPut, tTup, tLst, tDNewK, tRevL, rCat, rAppend, rPop, rSetL, tAndV, tOrV, tNotV, tSl, tPart, tNoPart, tM1, gTup, gCons, gNil, cxK, cxnK, List.map_cons, List.map_nil, List.length_cons, List.length_nil, List.replicate, List.cons_append, List.nil_append, List.append_nil, List.set_cons_zero, List.set_cons_succ, List.getElem?_cons_zero, List.getElem?_cons_succ, Option.some.injEq, V.ref.injEq, V.int.injEq, V.str.injEq, V.bl.injEq, V.ty.injEq, exists_eq_left', exists_eq_left, exists_and_left, List.cons.injEq, and_true, true_and, sc_ii, sc_ss, sc_bb, sc_ni, sc_in, sc_is, sc_si, sc_nn, decide_true, decide_false, reduceCtorEq, Bool.false_eq_true, if_true, if_false, ite_true, ite_false, exists_const, eq_self, false_and, and_false, or_false, false_or, exists_false, Evl.rLenS, rSum, wipe, tYes, exists_eq, exists_eq', rIxL, rIxT, rIxS, exists_and_right, gt_iff_lt, not_true_eq_false, not_false_eq_true, Bool.not_true, Bool.not_false, decide_eq_true_eq, Nat.reduceSub, Nat.reduceAdd, List.append_assoc, tChain, tDIn, tDNotIn, sDDel, tAug, ipI]
        refine ⟨.ref CE, .ref CE, true, ON, rfl, fun u h => h, rfl, rfl, T.kcO, T.o1, true, rfl, ?_⟩
        try simp (maxSteps := 1000000) only [tSeq, tIfS, tTest, tOp, tUn, tCB, tCons, tNil, tVar, tC, rI0, rI, rU, rEq, rNe, tRet, tRetN, tAsg, gName, gSub, tBM, tBM0, tNext, tB, tNot, tAnd, tOr, tIf, tCall, tDrop, tBreak, tCont, L2.start, tDGet, sDPut, tTup, tLst, tDNewK, tRevL, rCat, rAppend, rPop, rSetL, tAndV, tOrV, tNotV, tSl, tPart, tNoPart, tM1, gTup, gCons, gNil, cxK, cxnK, List.map_cons, List.map_nil, List.length_cons, List.length_nil, List.replicate, List.cons_append, List.nil_append, List.append_nil, List.set_cons_zero, List.set_cons_succ, List.getElem?_cons_zero, List.getElem?_cons_succ, Option.some.injEq, V.ref.injEq, V.int.injEq, V.str.injEq, V.bl.injEq, V.ty.injEq, exists_eq_left', exists_eq_left, exists_and_left, List.cons.injEq, and_true, true_and, sc_ii, sc_ss, sc_bb, sc_ni, sc_in, sc_is, sc_si, sc_nn, decide_true, decide_false, reduceCtorEq, Bool.false_eq_true, if_true, if_false, ite_true, ite_false, exists_const, eq_self, false_and, and_false, or_false, false_or, exists_false, Evl.rLenS, rSum, wipe, tYes, exists_eq, exists_eq', rIxL, rIxT, rIxS, exists_and_right, gt_iff_lt, not_true_eq_false, not_false_eq_true, Bool.not_true, Bool.not_false, decide_eq_true_eq, Nat.reduceSub, Nat.reduceAdd, List.append_assoc, tChain, tDIn, tDNotIn, sDDel, tAug, ipI]
        refine ⟨.ty "ValueError", .type "ValueError", true, ON, rfl, fun u h => h, rfl, rfl, T.kcO, T.o2, true, rfl, ?_⟩
        rw [if_pos rfl]
        exact ⟨.ref NO, .ref NO, false, ON, rfl, fun u h => h, rfl, rfl, T.kcO, T.o3, false, rfl, q _ k⟩
end
end My

set_option Elab.async false
set_option linter.all false
set_option maxRecDepth 100000
set_option maxHeartbeats 4000000
namespace My
open PySem L2 NdefX StX
/-- at bd a dict: to each pair's key a list of its own with the pairs whose calls lead there; E the edges that were walked, H0 the heap ahead of it -/
def BkE (P : Program) (w : World) (H0 : Hp) (C : Str → Nat → Int × Int) (n M : Nat) (E : List (Nat × Str)) (bd : Addr) (H : Hp) (ents : List (Nat × Addr)) : Prop := DnAt P w H bd (ents.map fun e => (keyG n e.1, V.ref e.2)) ∧ (ents.map (·.1)).Nodup ∧ (ents.map (·.2)).Nodup ∧
  (∀ e ∈ ents, e.1 < M ∧ H0 e.2 = none ∧ ∃ ps B, H e.2 = some (.lst ps) ∧ PrsG H n ps B ∧ B.length ≤ E.length ∧ ∀ x, x ∈ B ↔ ∃ z, (x, z) ∈ E ∧ nx C z x = e.1) ∧ ∀ p ∈ E, nx C p.2 p.1 ∈ ents.map (·.1)
theorem ent_val {n : Nat} : ∀ {ents : List (Nat × Addr)} {y : Nat} {l : Addr}, (ents.map (·.1)).Nodup → (y, l) ∈ ents → valN (ents.map fun e => (keyG n e.1, V.ref e.2)) (keyG n y) = some (.ref l)
  | e :: ents, y, l, nd, h => by
    rw [List.map_cons, List.nodup_cons] at nd
    unfold valN
    rw [List.map_cons]
    rcases List.mem_cons.mp h with h | h
    · subst h
      rw [List.find?_cons_of_pos (by simp)]
      rfl
    · have ne : e.1 ≠ y := fun q => nd.1 (by rw [q]; exact List.mem_map.mpr ⟨_, h, rfl⟩)
      rw [List.find?_cons_of_neg (by simpa using fun q => ne (keyG_inj q))]
      exact ent_val nd.2 h
theorem ent_none {n : Nat} : ∀ {ents : List (Nat × Addr)} {y : Nat}, y ∉ ents.map (·.1) → valN (ents.map fun e => (keyG n e.1, V.ref e.2)) (keyG n y) = none
  | [], _, _ => rfl
  | e :: ents, y, h => by
    rw [List.map_cons, List.mem_cons, not_or] at h
    unfold valN
    rw [List.map_cons, List.find?_cons_of_neg (by simpa using fun q => h.1 (keyG_inj q).symm)]
    exact ent_none h.2
section
variable {P : Program} {w : World} {H0 H : Hp} {C : Str → Nat → Int × Int} {n M : Nat} {E : List (Nat × Str)} {bd : Addr}
theorem BkE.kp {H' : Hp} {ents : List (Nat × Addr)} (h : BkE P w H0 C n M E bd H ents) (k : Kp [] H H') : BkE P w H0 C n M E bd H' ents := by
  obtain ⟨a, b, c, d, e⟩ := h
  exact ⟨dn_kp a k, b, c, fun x hx => by
    obtain ⟨d1, d2, ps, B, d3, d4, d5⟩ := d x hx
    exact ⟨d1, d2, ps, B, k _ _ not0 d3, d4.kp k, d5⟩, e⟩
theorem BkE.absent {y : Nat} {ents : List (Nat × Addr)} (h : BkE P w H0 C n M E bd H ents) (hy : y ∉ ents.map (·.1)) : ∀ x z, (x, z) ∈ E → nx C z x ≠ y := fun x z hp e => hy (e ▸ h.2.2.2.2 _ hp)
theorem BkE.len {ents : List (Nat × Addr)} (h : BkE P w H0 C n M E bd H ents) : ents.length ≤ M := by
  have := nodup_lenP (l := ents.map (·.1)) (m := List.range M) h.2.1 fun x hx => by
    obtain ⟨e, he, rfl⟩ := List.mem_map.mp hx
    exact List.mem_range.mpr (h.2.2.2.1 e he).1
  rwa [List.length_map, List.length_range] at this
theorem dn_nl {kvs : List (NestedKey × V)} (h : DnAt P w H bd kvs) {b : Addr} {us : List V} (e : H b = some (.lst us)) : b ≠ bd := fun z => by
  subst z
  rcases h with ⟨a, _⟩ | ⟨_, a, _⟩ <;> (rw [e] at a; cases a)
theorem dn_nt {kvs : List (NestedKey × V)} (h : DnAt P w H bd kvs) {b : Addr} {us : List V} (e : H b = some (.tup us)) : b ≠ bd := fun z => by
  subst z
  rcases h with ⟨a, _⟩ | ⟨_, a, _⟩ <;> (rw [e] at a; cases a)
/-- another dict is written -/
theorem dn_wd {d s : Addr} {kvs ks : List (NestedKey × V)} {ob : HO} (h : DnAt P w H d kvs) (hs : DnAt P w H s ks) (ne : d ≠ s) : DnAt P w (upd H s ob) d kvs := by
  rcases h with ⟨a, b⟩ | ⟨xs, a, b, nk⟩
  · exact .inl ⟨by rw [upd_ne ne]; exact a, b⟩
  · refine .inr ⟨xs, by rw [upd_ne ne]; exact a, b, fun x hx => ?_⟩
    obtain ⟨a1, a2⟩ := nk x hx
    exact ⟨a1.tp fun b ys e => by rw [upd_ne (dn_nt hs e)]; exact e, a2⟩
theorem BkE.wd {s : Addr} {ks : List (NestedKey × V)} {ob : HO} {ents : List (Nat × Addr)} (h : BkE P w H0 C n M E bd H ents) (hs : DnAt P w H s ks) (ne : bd ≠ s) : BkE P w H0 C n M E bd (upd H s ob) ents := by
  obtain ⟨hd, h1, h2, h3, h4⟩ := h
  refine ⟨dn_wd hd hs ne, h1, h2, fun e he => ?_, h4⟩
  obtain ⟨a1, a2, qs, B, a3, a4, a5⟩ := h3 e he
  exact ⟨a1, a2, qs, B, by rw [upd_ne (dn_nl hs a3)]; exact a3, a4.tp fun b us e => by rw [upd_ne (dn_nt hs e)]; exact e, a5⟩
/-- another list is written -/
theorem BkE.wl {l : Addr} {us ws : List V} {ents : List (Nat × Addr)} (h : BkE P w H0 C n M E bd H ents) (hl : H l = some (.lst us)) (ne : ∀ e ∈ ents, e.2 ≠ l) : BkE P w H0 C n M E bd (upd H l (.lst ws)) ents := by
  obtain ⟨hd, h1, h2, h3, h4⟩ := h
  refine ⟨dn_wr hd hl (Ne.symm (dn_nl hd hl)), h1, h2, fun e he => ?_, h4⟩
  obtain ⟨a1, a2, qs, B, a3, a4, a5⟩ := h3 e he
  exact ⟨a1, a2, qs, B, by rw [upd_ne (ne e he)]; exact a3, a4.tp fun b us e => by rw [upd_ne (fun z => by rw [z, hl] at e; cases e)]; exact e, a5⟩
/-- one pair more in a list that is there -/
theorem BkE.old {x y : Nat} {z : Str} {l pp : Addr} {ents : List (Nat × Addr)} {ps : List V} (h : BkE P w H0 C n M E bd H ents)
    (hm : (y, l) ∈ ents) (hy : nx C z x = y) (hl : H l = some (.lst ps)) (hp : H pp = some (.tup [.int (x / n : Nat), .int (x % n : Nat)])) : BkE P w H0 C n M (E ++ [(x, z)]) bd (upd H l (.lst (ps ++ [.ref pp]))) ents := by
  obtain ⟨hd, h1, h2, h3, h4⟩ := h
  have tt : ∀ b us, H b = some (.tup us) → (upd H l (.lst (ps ++ [.ref pp]))) b = some (.tup us) := fun b us e => by
    rw [upd_ne (fun q => by rw [q, hl] at e; cases e)]
    exact e
  refine ⟨dn_wr hd hl (Ne.symm (dn_nl hd hl)), h1, h2, fun e he => ?_, fun p hp => ?_⟩
  · obtain ⟨a1, a2, qs, B, a3, a4, a5, a6⟩ := h3 e he
    refine ⟨a1, a2, ?_⟩
    by_cases q : e.2 = l
    · have e1 : e.1 = y := by
        have : e = (y, l) := by
          obtain ⟨i, ei⟩ := List.getElem?_of_mem he
          obtain ⟨j, ej⟩ := List.getElem?_of_mem hm
          obtain ⟨i1, i2⟩ := List.getElem?_eq_some_iff.mp ei
          obtain ⟨j1, j2⟩ := List.getElem?_eq_some_iff.mp ej
          have : i = j := (List.getElem_inj (h₀ := by rw [List.length_map]; exact i1) (h₁ := by rw [List.length_map]; exact j1) h2).mp (by rw [List.getElem_map, List.getElem_map, i2, j2]; exact q)
          subst this
          rw [ei] at ej
          exact Option.some.inj ej
        rw [this]
      rw [q, hl] at a3
      cases a3
      refine ⟨_, B ++ [x], by rw [q]; exact upd_same, (a4.tp tt).snoc (tt _ _ hp), by rw [List.length_append, List.length_append]; exact Nat.add_le_add_right a5 1, fun x' => ?_⟩
      rw [List.mem_append, a6]
      constructor
      · rintro (⟨z', g1, g2⟩ | g)
        · exact ⟨z', List.mem_append_left _ g1, g2⟩
        · rw [List.mem_singleton.mp g]
          exact ⟨z, List.mem_append_right _ List.mem_cons_self, hy.trans e1.symm⟩
      · rintro ⟨z', g1, g2⟩
        rcases List.mem_append.mp g1 with g1 | g1
        · exact .inl ⟨z', g1, g2⟩
        · have := List.mem_singleton.mp g1
          cases this
          exact .inr List.mem_cons_self
    · refine ⟨qs, B, by rw [upd_ne q]; exact a3, a4.tp tt, by rw [List.length_append]; omega, fun x' => ?_⟩
      rw [a6]
      constructor
      · rintro ⟨z', g1, g2⟩
        exact ⟨z', List.mem_append_left _ g1, g2⟩
      · rintro ⟨z', g1, g2⟩
        rcases List.mem_append.mp g1 with g1 | g1
        · exact ⟨z', g1, g2⟩
        · have := List.mem_singleton.mp g1
          cases this
          exfalso
          refine q ?_
          have e1 : e.1 = y := g2.symm.trans hy
          obtain ⟨i, ei⟩ := List.getElem?_of_mem he
          obtain ⟨j, ej⟩ := List.getElem?_of_mem hm
          obtain ⟨i1, i2⟩ := List.getElem?_eq_some_iff.mp ei
          obtain ⟨j1, j2⟩ := List.getElem?_eq_some_iff.mp ej
          have : i = j := (List.getElem_inj (h₀ := by rw [List.length_map]; exact i1) (h₁ := by rw [List.length_map]; exact j1) h1).mp (by rw [List.getElem_map, List.getElem_map, i2, j2]; exact e1)
          subst this
          rw [ei] at ej
          rw [Option.some.inj ej]
  · rcases List.mem_append.mp hp with hp | hp
    · exact h4 p hp
    · rw [List.mem_singleton.mp hp]
      show nx C z x ∈ _
      rw [hy]
      exact List.mem_map.mpr ⟨_, hm, rfl⟩
/-- a new key with its empty list -/
theorem BkE.fresh {y : Nat} {el : Addr} {ob : HO} {ents : List (Nat × Addr)} (h : BkE P w H0 C n M E bd H ents) (hy : y ∉ ents.map (·.1)) (yM : y < M) (hel : H el = some (.lst [])) (n0 : H0 el = none) (hne : ∀ e ∈ ents, e.2 ≠ el)
    (hob : DnAt P w (upd H bd ob) bd (putN (ents.map fun e => (keyG n e.1, V.ref e.2)) (keyG n y) (.ref el))) : BkE P w H0 C n M E bd (upd H bd ob) (ents ++ [(y, el)]) := by
  have hab := h.absent hy
  obtain ⟨hd, h1, h2, h3, h4⟩ := h
  have put : putN (ents.map fun e => (keyG n e.1, V.ref e.2)) (keyG n y) (.ref el) = (ents ++ [(y, el)]).map fun e => (keyG n e.1, V.ref e.2) := by
    unfold putN
    rw [ent_none hy, if_neg (by decide), List.map_append]
    rfl
  rw [put] at hob
  have keepL : ∀ b us, H b = some (.lst us) → (upd H bd ob) b = some (.lst us) := fun b us e => by rw [upd_ne (dn_nl hd e)]; exact e
  have keepT : ∀ b us, H b = some (.tup us) → (upd H bd ob) b = some (.tup us) := fun b us e => by rw [upd_ne (dn_nt hd e)]; exact e
  refine ⟨hob, ?_, ?_, fun e he => ?_, fun p hp => ?_⟩
  · rw [List.map_append, List.nodup_append]
    refine ⟨h1, by simp, fun a ha b hb e => ?_⟩
    have : b = y := by simpa using hb
    exact hy (by rw [← this, ← e]; exact ha)
  · rw [List.map_append, List.nodup_append]
    refine ⟨h2, by simp, fun a ha b hb e => ?_⟩
    have : b = el := by simpa using hb
    obtain ⟨q, hq, rfl⟩ := List.mem_map.mp ha
    exact hne q hq (e.trans this)
  · rcases List.mem_append.mp he with he | he
    · obtain ⟨a1, a2, qs, B, a3, a4, a5, a6⟩ := h3 e he
      exact ⟨a1, a2, qs, B, keepL _ _ a3, a4.tp keepT, a5, a6⟩
    · have := List.mem_singleton.mp he
      subst this
      exact ⟨yM, n0, [], [], keepL _ _ hel, ⟨rfl, fun i x e => by cases e⟩, Nat.zero_le _, fun x => ⟨fun q => (nomatch q), fun ⟨z, g1, g2⟩ => absurd g2 (hab x z g1)⟩⟩
  · rw [List.map_append]
    exact List.mem_append_left _ (h4 p hp)
end
end My

set_option Elab.async false
set_option linter.all false
set_option maxRecDepth 100000
set_option maxHeartbeats 4000000
namespace My
open PySem L2 NdefX StX
abbrev s_law_left : Stmt := top 38
theorem sc_law_left : FnScope ["_law_rows_here", "_law_last", "_law_names_here", "_law_pairs_here", "_law_back", "_law_left_here", "_law_level", "_law_pair", "_law_differs", "_law_name", "_law_one", "_law_two", "_law_row", "_law_nearer", "_law_ahead"] ["_law_rows_here", "_law_last", "_law_names_here", "_law_pairs_here"] (defScope s_law_left) := ⟨rfl, rfl, rfl, by decide +kernel, rfl, by decide +kernel, by decide +kernel⟩
/-- the distances that a dict tells, one more than they are, for those up to t -/
def LvAt (P : Program) (w : World) (zs : List Str) (c c' : Str → Nat → Int × Int) (n : Nat) (G : List (Nat × Nat)) (sd : Addr) (H : Hp) : Prop := DnAt P w H sd (G.map fun g => (keyG n g.1, V.int ((g.2 : Nat) + 1)))
theorem lv_val {n : Nat} : ∀ {G : List (Nat × Nat)} {x k : Nat}, (G.map (·.1)).Nodup → (x, k) ∈ G → valN (G.map fun g => (keyG n g.1, V.int ((g.2 : Nat) + 1))) (keyG n x) = some (.int ((k : Nat) + 1))
  | e :: G, x, k, nd, h => by
    rw [List.map_cons, List.nodup_cons] at nd
    unfold valN
    rw [List.map_cons]
    rcases List.mem_cons.mp h with h | h
    · subst h
      rw [List.find?_cons_of_pos (by simp)]
      rfl
    · have ne : e.1 ≠ x := fun q => nd.1 (by rw [q]; exact List.mem_map.mpr ⟨_, h, rfl⟩)
      rw [List.find?_cons_of_neg (by simpa using fun q => ne (keyG_inj q))]
      exact lv_val nd.2 h
theorem lv_none {n : Nat} : ∀ {G : List (Nat × Nat)} {x : Nat}, x ∉ G.map (·.1) → valN (G.map fun g => (keyG n g.1, V.int ((g.2 : Nat) + 1))) (keyG n x) = none
  | [], _, _ => rfl
  | e :: G, x, h => by
    rw [List.map_cons, List.mem_cons, not_or] at h
    unfold valN
    rw [List.map_cons, List.find?_cons_of_neg (by simpa using fun q => h.1 (keyG_inj q).symm)]
    exact lv_none h.2
theorem lv_put {n x k : Nat} {G : List (Nat × Nat)} (h : x ∉ G.map (·.1)) : putN (G.map fun g => (keyG n g.1, V.int ((g.2 : Nat) + 1))) (keyG n x) (.int ((k : Nat) + 1)) = (G ++ [(x, k)]).map fun g => (keyG n g.1, V.int ((g.2 : Nat) + 1)) := by
  unfold putN
  rw [lv_none h, if_neg (by decide), List.map_append]
  rfl
/-- the pairs with a distance up to t, told by a list -/
structure LvOk (zs : List Str) (c c' : Str → Nat → Int × Int) (n : Nat) (F : List Nat) (t : Nat) (G : List (Nat × Nat)) : Prop where
  nd : (G.map (·.1)).Nodup
  ok : ∀ g ∈ G, g.1 ∈ F ∧ DistIs zs c c' n g.1 g.2 ∧ g.2 ≤ t
  all : ∀ x ∈ F, ∀ k, k ≤ t → DistIs zs c c' n x k → (x, k) ∈ G
def edg (zs : List Str) (F : List Nat) : List (Nat × Str) := F.flatMap fun x => zs.map fun z => (x, z)
theorem edg_snoc {zs : List Str} {F : List Nat} {x : Nat} : edg zs (F ++ [x]) = edg zs F ++ zs.map fun z => (x, z) := by
  unfold edg
  rw [List.flatMap_append]
  simp
theorem edg_len {zs : List Str} : ∀ F : List Nat, (edg zs F).length = F.length * zs.length
  | [] => by simp [edg]
  | x :: F => by
    have := edg_len (zs := zs) F
    unfold edg at this ⊢
    rw [List.flatMap_cons, List.length_append, this, List.length_map, List.length_cons, Nat.add_mul, Nat.one_mul, Nat.add_comm]
/-- behind the walk over all pairs: F0 the ones that were walked -/
def Lf1 (P : Program) (w : World) (zs : List Str) (c c' : Str → Nat → Int × Int) (n M : Nat) (F0 : List Nat) (E : List (Nat × Str)) (H : Hp) (bd sd vl : Addr) (H1 : Hp) : Prop := ∃ (ents : List (Nat × Addr)) (G : List (Nat × Nat)) (qs : List V), BkE P w H (pairC c c' n) n M E bd H1 ents ∧ LvAt P w zs c c' n G sd H1 ∧ H1 vl = some (.lst qs) ∧ PrsG H1 n qs (G.map (·.1)) ∧ (G.map (·.1)).Nodup ∧ (∀ g ∈ G, g.1 ∈ F0 ∧ g.2 = 0 ∧ DfP zs c c' n g.1) ∧ (∀ x ∈ F0, DfP zs c c' n x → (x, 0) ∈ G) ∧ (∀ e ∈ ents, e.2 ≠ vl) ∧ Kp [] H H1
theorem Lf1.kp {P : Program} {w : World} {zs : List Str} {c c' : Str → Nat → Int × Int} {n M : Nat} {F0 : List Nat} {E : List (Nat × Str)} {H : Hp} {bd sd vl : Addr} {H1 H2 : Hp} (h : Lf1 P w zs c c' n M F0 E H bd sd vl H1) (k : Kp [] H1 H2) : Lf1 P w zs c c' n M F0 E H bd sd vl H2 := by
  obtain ⟨ents, G, qs, a, b, d, e, f, g, i, j, l⟩ := h
  exact ⟨ents, G, qs, a.kp k, dn_kp b k, k _ _ not0 d, e.kp k, f, g, i, j, l.trans k⟩
section
variable {P : Program} {w : World} {K : PySem.W.Frag} {mg : Str → Option Value} {base : Heap}
def spLeft (P : Program) (w : World) : Sp := fun vs H Q _ => ∃ (rd ld nl pl : Addr) (m n : Nat) (zs : List Str) (c c' : Str → Nat → Int × Int) (ps : List V) (F : List Nat), vs = [.ref rd, .ref ld, .ref nl, .ref pl] ∧ RwS H rd zs m c ∧ RwS H ld zs n c' ∧ H nl = some (.lst (zs.map V.str)) ∧ zs.Nodup ∧ zs.length ≤ 6 ∧ CellB zs m 10 c ∧ CellB zs n 10 c' ∧ m * n ≤ 10000 ∧ H pl = some (.lst ps) ∧ PrsG H n ps F ∧ F.Nodup ∧ (∀ x ∈ F, x < m * n ∧ ∀ z ∈ zs, nx (pairC c c' n) z x ∈ F) ∧
  ∀ sd G H', H sd = none → LvAt P w zs c c' n G sd H' → (G.map (·.1)).Nodup → (∀ g ∈ G, DistIs zs c c' n g.1 g.2) → (∀ x ∈ F, ∀ k, DistIs zs c c' n x k → (x, k) ∈ G) → Kp [] H H' → Q (.ref sd) H'
/-- ahead of a round: level's codes are those with the distance tt -/
def WLf (P : Program) (w : World) (zs : List Str) (c c' : Str → Nat → Int × Int) (n M : Nat) (F : List Nat) (H : Hp) (rd ld nl pl bd sd : Addr) (k : Nat) (σ : L2.St) (H' : Hp) : Prop := ∃ (tt : Nat) (ents : List (Nat × Addr)) (G : List (Nat × Nat)) (lv : Addr) (us : List V) (Lq : List Nat) (c7 c8 c9 c10 c11 c12 c13 c14 : Option V), σ = [some (.ref rd), some (.ref ld), some (.ref nl), some (.ref pl), some (.ref bd), some (.ref sd), some (.ref lv), c7, c8, c9, c10, c11, c12, c13, c14] ∧ BkE P w H (pairC c c' n) n M (edg zs F) bd H' ents ∧ LvAt P w zs c c' n G sd H' ∧ H' lv = some (.lst us) ∧ PrsG H' n us Lq ∧ Lq.Nodup ∧ (∀ x, x ∈ Lq ↔ x ∈ F ∧ DistIs zs c c' n x tt) ∧ LvOk zs c c' n F tt G ∧ Kp [] H H' ∧ k = F.length + 1 - tt
theorem dist_lt {zs : List Str} {c c' : Str → Nat → Int × Int} {n : Nat} {F : List Nat} (hF : ∀ x ∈ F, ∀ z ∈ zs, nx (pairC c c' n) z x ∈ F) : ∀ t x, x ∈ F → DistIs zs c c' n x t → ∃ l : List Nat, l.Nodup ∧ l.length = t + 1 ∧ (∀ y ∈ l, y ∈ F) ∧ ∀ y ∈ l, ∃ k, k ≤ t ∧ DistIs zs c c' n y k
  | 0, x, hx, h => ⟨[x], by simp, rfl, fun y hy => by rw [List.mem_singleton.mp hy]; exact hx, fun y hy => by rw [List.mem_singleton.mp hy]; exact ⟨0, Nat.le_refl _, h⟩⟩
  | t + 1, x, hx, h => by
    obtain ⟨z, hz, h1⟩ := h.step
    obtain ⟨l, a, b, d, e⟩ := dist_lt hF t _ (hF x hx z hz) h1
    refine ⟨x :: l, List.nodup_cons.mpr ⟨fun hm => ?_, a⟩, by rw [List.length_cons, b], fun y hy => ?_, fun y hy => ?_⟩
    · obtain ⟨k, hk, hd⟩ := e x hm
      have := hd.uniq h
      omega
    · rcases List.mem_cons.mp hy with rfl | hy
      · exact hx
      · exact d y hy
    · rcases List.mem_cons.mp hy with rfl | hy
      · exact ⟨_, Nat.le_refl _, h⟩
      · obtain ⟨k, hk, hd⟩ := e y hy
        exact ⟨k, by omega, hd⟩
theorem ok_law_left {f : Addr} {fd : FuncData} (D : Df K mg "_law_left" s_law_left ["_law_rows_here", "_law_last", "_law_names_here", "_law_pairs_here"] f fd) (T : BtCh mg) : FnOk P w K mg base CX0 1 f fd ["_law_rows_here", "_law_last", "_law_names_here", "_law_pairs_here"] (spLeft P w) := by
  refine D.F.ok sc_law_left (fun vs H Q E h => ?_) (fun cdv A outer s H vs Q E hr h => ?_)
  · obtain ⟨_, _, _, _, _, _, _, _, _, _, _, rfl, _⟩ := h
    rfl
  · obtain ⟨rd, ld, nl, pl, m, n, zs, c, c', ps, F, rfl, hrw, hlw, hn, nd, z6, hb, hb', mn, hpl, hps, ndF, hF, q⟩ := h
    have hu := hu_of hr
    obtain ⟨t, ht, hq⟩ : ∃ t, PSs (cxOf CX0 P w K mg base ["_law_rows_here", "_law_last", "_law_names_here", "_law_pairs_here", "_law_back", "_law_left_here", "_law_level", "_law_pair", "_law_differs", "_law_name", "_law_one", "_law_two", "_law_row", "_law_nearer", "_law_ahead"] "_law_left" (defScope s_law_left) f cdv A outer s H E).nox ((defBody s_law_left).drop 4) t ∧ ∀ (bd sd vl : Addr) (c7 c8 c9 c10 c11 c12 c13 c14 : Option V) H1, Lf1 P w zs c c' n (m * n) F (edg zs F) H bd sd vl H1 → H bd = none → H sd = none → H vl = none → bd ≠ sd → t { nx := fun _ H' => Q .non H', rt := Q } [some (.ref rd), some (.ref ld), some (.ref nl), some (.ref pl), some (.ref bd), some (.ref sd), some (.ref vl), c7, c8, c9, c10, c11, c12, c13, c14] H1 := by
      refine ⟨_, (pss_cons (ps_while PassesOwn.never (pt_cmpR op_gt (pe_callB (id := "len") (r := Evl.rLenS K) call_len_seq (by rfl) T.b_len PySem.boot_len (pa_cons (pv 6) pa_nil)) pe_int (nomark _)) (pss_cons (ps_set (i := 13) sc_law_left.nd rfl (Or.inl rfl) (pe_lst pa_nil))
      (pss_cons (ps_for PassesOwn.never rfl (pi_list (pv 6)) (pg_name (i := 7) sc_law_left.nd rfl (Or.inl rfl)) (pss_one (ps_for PassesOwn.never rfl (pi_list (pe_ngor hr.units (pv 4) (pa_cons (pv 7) (pa_cons (pe_lst pa_nil) pa_nil)))) (pg_name (i := 14) sc_law_left.nd rfl (Or.inl rfl)) (pss_one (ps_if (pt_cmp (pc_nnotin hr.units (pv 14) (pv 5))) (pss_cons (ps_nput hr.units (pv 5) (pv 14) (pe_op op_add (pe_nget hr.units (pv 5) (pv 7) (fun _ _ => rfl)) pe_int) rfl)
      (pss_one (ps_expr (pe_bm PySem.F.plainAttrs_list PySem.F.slot_list_append PySem.F.type_list_append mt_append (pv 13) (pa_cons (pv 14) pa_nil))))) pss_nil)))))
      (pss_one (ps_set (i := 6) sc_law_left.nd rfl (Or.inl rfl) (pe_callTy call_list_of (by rfl) T.b_list (by decide +kernel) (pa_cons (pv 13) pa_nil)))))))
      (pss_one (ps_ret (pv 5)))), ?_⟩
      intro bd sd vl c7 c8 c9 c10 c11 c12 c13 c14 H1 hL nbd nsd nvl bs
      obtain ⟨ents, G, qs, hE, hG, hvl, hqs, g1, g2, g3, g4, k1⟩ := hL
      try simp (maxSteps := 1000000) only [tSeq, tIfS, tTest, tOp, tUn, tCB, tCons, tNil, tVar, tC, rI0, rI, rU, rEq, rNe, tRet, tRetN, tAsg, gName, gSub, tBM, tBM0, tNext, tB, tNot, tAnd, tOr, tIf, tCall, tDrop, tBreak, tCont, L2.start, tDGet, sDPut, tTup, tLst, tDNewK, tRevL, rCat, rAppend, rPop, rSetL, tAndV, tOrV, tNotV, tSl, tPart, tNoPart, tM1, gTup, gCons, gNil, cxK, cxnK, List.map_cons, List.map_nil, List.length_cons, List.length_nil, List.replicate, List.cons_append, List.nil_append, List.append_nil, List.set_cons_zero, List.set_cons_succ, List.getElem?_cons_zero, List.getElem?_cons_succ, Option.some.injEq, V.ref.injEq, V.int.injEq, V.str.injEq, V.bl.injEq, V.ty.injEq, exists_eq_left', exists_eq_left, exists_and_left, List.cons.injEq, and_true, true_and, sc_ii, sc_ss, sc_bb, sc_ni, sc_in, sc_is, sc_si, sc_nn, decide_true, decide_false, reduceCtorEq, Bool.false_eq_true, if_true, if_false, ite_true, ite_false, exists_const, eq_self, false_and, and_false, or_false, false_or, exists_false, Evl.rLenS, rSum, wipe, tYes, exists_eq, exists_eq', rIxL, rIxT, rIxS, exists_and_right, gt_iff_lt, not_true_eq_false, not_false_eq_true, Bool.not_true, Bool.not_false, decide_eq_true_eq, Nat.reduceSub, Nat.reduceAdd, List.append_assoc, tChain, tDIn, tDNotIn, sDDel, tAug, ipI, tNNotIn, sNPut, tNDef, tNGet, tNGor]
      have lv0 : LvOk zs c c' n F 0 G := ⟨g1, fun g hg => by
        obtain ⟨a, b, d⟩ := g2 g hg
        refine ⟨a, ?_, by omega⟩
        rw [b]
        exact ⟨WdP.zero.mpr d, fun j hj => absurd hj (by omega)⟩, fun x hx k hk hd => by
        have : k = 0 := by omega
        subst this
        exact g3 x hx (WdP.zero.mp hd.1)⟩
      refine ⟨WLf P w zs c c' n (m * n) F H rd ld nl pl bd sd, ⟨_, 0, ents, G, vl, qs, G.map (·.1), _, _, _, _, _, _, _, _, rfl, hE, hG, hvl, hqs, g1, fun x => ⟨fun hx => ?_, fun ⟨hx, hd⟩ => List.mem_map.mpr ⟨_, g3 x hx (WdP.zero.mp hd.1), rfl⟩⟩, lv0, k1, rfl⟩, ?_⟩
      · obtain ⟨g, hg, rfl⟩ := List.mem_map.mp hx
        obtain ⟨a, b, d⟩ := lv0.ok g hg
        rw [(g2 g hg).2.1] at b
        exact ⟨a, b⟩
      · rintro k σ H2 ⟨tt, ents, G, lv, us, Lq, c7, c8, c9, c10, c11, c12, c13, c14, rfl, hE, hG, hlv, hus, lnd, lmem, hok, k2, rfl⟩
        try simp (maxSteps := 1000000) only [tSeq, tIfS, tTest, tOp, tUn, tCB, tCons, tNil, tVar, tC, rI0, rI, rU, rEq, rNe, tRet, tRetN, tAsg, gName, gSub, tBM, tBM0, tNext, tB, tNot, tAnd, tOr, tIf, tCall, tDrop, tBreak, tCont, L2.start, tDGet, sDPut, tTup, tLst, tDNewK, tRevL, rCat, rAppend, rPop, rSetL, tAndV, tOrV, tNotV, tSl, tPart, tNoPart, tM1, gTup, gCons, gNil, cxK, cxnK, List.map_cons, List.map_nil, List.length_cons, List.length_nil, List.replicate, List.cons_append, List.nil_append, List.append_nil, List.set_cons_zero, List.set_cons_succ, List.getElem?_cons_zero, List.getElem?_cons_succ, Option.some.injEq, V.ref.injEq, V.int.injEq, V.str.injEq, V.bl.injEq, V.ty.injEq, exists_eq_left', exists_eq_left, exists_and_left, List.cons.injEq, and_true, true_and, sc_ii, sc_ss, sc_bb, sc_ni, sc_in, sc_is, sc_si, sc_nn, decide_true, decide_false, reduceCtorEq, Bool.false_eq_true, if_true, if_false, ite_true, ite_false, exists_const, eq_self, false_and, and_false, or_false, false_or, exists_false, Evl.rLenS, rSum, wipe, tYes, exists_eq, exists_eq', rIxL, rIxT, rIxS, exists_and_right, gt_iff_lt, not_true_eq_false, not_false_eq_true, Bool.not_true, Bool.not_false, decide_eq_true_eq, Nat.reduceSub, Nat.reduceAdd, List.append_assoc, tChain, tDIn, tDNotIn, sDDel, tAug, ipI, tNNotIn, sNPut, tNDef, tNGet, tNGor]
        refine ⟨_, .inl (sq_l hlv), ?_⟩
        rw [hus.1]
        by_cases emp : 0 < Lq.length
        · rw [if_pos (by omega)]
          have ltF : tt < F.length := by
            obtain ⟨x, hx⟩ := List.exists_mem_of_length_pos emp
            obtain ⟨hx1, hx2⟩ := (lmem x).mp hx
            obtain ⟨l, a, b, d, _⟩ := dist_lt (fun x hx => (hF x hx).2) tt x hx1 hx2
            have := nodup_lenP a d
            omega
          refine ⟨fun σ' H' => ∃ m', m' < F.length + 1 - tt ∧ WLf P w zs c c' n (m * n) F H rd ld nl pl bd sd m' σ' H', fun _ _ h => h, Nat.zero_le _, fun nr nnr => ?_⟩
          have kn := (Kp.new nnr : Kp [] H2 (upd H2 nr (.lst [])))
          have k3 := k2.trans kn
          have nnr0 : H nr = none := noneB k2 nnr
          have hlv3 := kn _ _ not0 hlv
          refine ⟨.ref lv, rfl, lv, rfl, ⟨_, sq_l hlv3⟩, for_list (K := K) (a := lv) (xs := us) (fun i σ H' => (∃ (c7 c8 c9 c10 c11 c12 c14 : Option V), σ = [some (.ref rd), some (.ref ld), some (.ref nl), some (.ref pl), some (.ref bd), some (.ref sd), some (.ref lv), c7, c8, c9, c10, c11, c12, some (.ref nr), c14]) ∧ ∃ (G' : List (Nat × Nat)) (ns : List V) (Nq : List Nat), BkE P w H (pairC c c' n) n (m * n) (edg zs F) bd H' ents ∧ LvAt P w zs c c' n (G ++ G') sd H' ∧ H' nr = some (.lst ns) ∧ PrsG H' n ns Nq ∧ G' = Nq.map (fun x => (x, tt + 1)) ∧ ((G ++ G').map (·.1)).Nodup ∧ (∀ x ∈ Nq, x ∈ F ∧ DistIs zs c c' n x (tt + 1)) ∧ (∀ y ∈ Lq.take i, ∀ x ∈ F, ∀ z ∈ zs, nx (pairC c c' n) z x = y → x ∈ (G ++ G').map (·.1)) ∧ H' lv = some (.lst us) ∧ PrsG H' n us Lq ∧ Kp [] H H') ⟨⟨_, _, _, _, _, _, _, rfl⟩, [], [], [], hE.kp kn, by rw [List.append_nil]; exact dn_kp hG kn, upd_same, ⟨rfl, fun i x e => by cases e⟩, rfl, by rw [List.append_nil]; exact hok.nd, (fun x h => nomatch h), (fun y h => nomatch h), hlv3, hus.kp kn, k3⟩ (fun i σ H' _ h => by obtain ⟨_, _, _, _, _, _, _, _, _, _, _, _, a, _⟩ := h; exact sq_l a) ?_ ?_⟩
          · rintro i px σ H4 hx ⟨⟨c7, c8, c9, c10, c11, c12, c14, rfl⟩, G', ns, Nq, hE4, hG4, hnr4, hns4, eG, nd4, ok4, all4, hlv4, hus4, k4⟩
            have ix : i < Lq.length := by rw [← hus.1]; exact (List.getElem?_eq_some_iff.mp hx).1
            have ex := List.getElem?_eq_getElem ix
            generalize Lq[i] = y at ex
            obtain ⟨pa, epa, hpa⟩ := hus4.2 i y ex
            rw [hx] at epa
            cases epa
            have yin := (lmem y).mp (List.mem_of_getElem? ex)
            refine forLD (K := K) (fun a H1 => ∃ (ps : List V) (B : List Nat), H1 a = some (.lst ps) ∧ PrsG H1 n ps B ∧ B.length ≤ (edg zs F).length ∧ (∀ x, x ∈ B ↔ ∃ z, (x, z) ∈ edg zs F ∧ nx (pairC c c' n) z x = y) ∧ a ≠ nr ∧ Kp [] H4 H1) (fun R hR => ?_) ?_
            · try simp (maxSteps := 1000000) only [tSeq, tIfS, tTest, tOp, tUn, tCB, tCons, tNil, tVar, tC, rI0, rI, rU, rEq, rNe, tRet, tRetN, tAsg, gName, gSub, tBM, tBM0, tNext, tB, tNot, tAnd, tOr, tIf, tCall, tDrop, tBreak, tCont, L2.start, tDGet, sDPut, tTup, tLst, tDNewK, tRevL, rCat, rAppend, rPop, rSetL, tAndV, tOrV, tNotV, tSl, tPart, tNoPart, tM1, gTup, gCons, gNil, cxK, cxnK, List.map_cons, List.map_nil, List.length_cons, List.length_nil, List.replicate, List.cons_append, List.nil_append, List.append_nil, List.set_cons_zero, List.set_cons_succ, List.getElem?_cons_zero, List.getElem?_cons_succ, Option.some.injEq, V.ref.injEq, V.int.injEq, V.str.injEq, V.bl.injEq, V.ty.injEq, exists_eq_left', exists_eq_left, exists_and_left, List.cons.injEq, and_true, true_and, sc_ii, sc_ss, sc_bb, sc_ni, sc_in, sc_is, sc_si, sc_nn, decide_true, decide_false, reduceCtorEq, Bool.false_eq_true, if_true, if_false, ite_true, ite_false, exists_const, eq_self, false_and, and_false, or_false, false_or, exists_false, Evl.rLenS, rSum, wipe, tYes, exists_eq, exists_eq', rIxL, rIxT, rIxS, exists_and_right, gt_iff_lt, not_true_eq_false, not_false_eq_true, Bool.not_true, Bool.not_false, decide_eq_true_eq, Nat.reduceSub, Nat.reduceAdd, List.append_assoc, tChain, tDIn, tDNotIn, sDDel, tAug, ipI, tNNotIn, sNPut, tNDef, tNGet, tNGor]
              refine ⟨⟨_, hE4.1⟩, Nat.zero_le _, fun p np => ?_⟩
              have kp := (Kp.new np : Kp [] H4 (upd H4 p (.lst [])))
              refine ⟨_, _, _, _, ⟨rfl, rfl⟩, dn_kp hE4.1 kp, nk_pair (kp _ _ not0 hpa), fun v' hv => ?_, fun hv => hR _ _ ⟨[], [], upd_same, ⟨rfl, fun i x e => by cases e⟩, Nat.zero_le _, fun x => ⟨fun h => (nomatch h), fun ⟨z, h1, h2⟩ => ?_⟩, (fun z => by rw [z, hnr4] at np; cases np), kp⟩⟩
              · by_cases hin : y ∈ ents.map (·.1)
                · obtain ⟨e, he, e1⟩ := List.mem_map.mp hin
                  have he' : (y, e.2) ∈ ents := by rw [← e1]; exact he
                  rw [ent_val hE4.2.1 he'] at hv
                  cases hv
                  obtain ⟨_, _, vs, B, hl, hB, hBl, hBm⟩ := hE4.2.2.2.1 e he
                  obtain ⟨_, _, vs2, _, hl2, _⟩ := hE.2.2.2.1 e he
                  exact hR _ _ ⟨vs, B, kp _ _ not0 hl, hB.kp kp, hBl, fun x => by rw [hBm, e1], fun z => (by rw [z, nnr] at hl2; cases hl2), kp⟩
                · rw [ent_none hin] at hv
                  cases hv
              · have hin : y ∈ ents.map (·.1) := by
                  rw [← h2]
                  exact hE4.2.2.2.2 _ h1
                obtain ⟨e, he, e1⟩ := List.mem_map.mp hin
                have he' : (y, e.2) ∈ ents := by rw [← e1]; exact he
                rw [ent_val hE4.2.1 he'] at hv
                cases hv
            · rintro al H5 ⟨as, B, hal, has, Bl, hBm, anr, k5⟩
              refine ⟨al, rfl, ⟨_, sq_l hal⟩, for_list (K := K) (a := al) (xs := as) (fun j σ H' => (∃ (c8 c9 c10 c11 c12 c14 : Option V), σ = [some (.ref rd), some (.ref ld), some (.ref nl), some (.ref pl), some (.ref bd), some (.ref sd), some (.ref lv), some (.ref pa), c8, c9, c10, c11, c12, some (.ref nr), c14]) ∧ ∃ (G' : List (Nat × Nat)) (ns : List V) (Nq : List Nat), BkE P w H (pairC c c' n) n (m * n) (edg zs F) bd H' ents ∧ LvAt P w zs c c' n (G ++ G') sd H' ∧ H' nr = some (.lst ns) ∧ PrsG H' n ns Nq ∧ G' = Nq.map (fun x => (x, tt + 1)) ∧ ((G ++ G').map (·.1)).Nodup ∧ (∀ x ∈ Nq, x ∈ F ∧ DistIs zs c c' n x (tt + 1)) ∧ (∀ y ∈ Lq.take i, ∀ x ∈ F, ∀ z ∈ zs, nx (pairC c c' n) z x = y → x ∈ (G ++ G').map (·.1)) ∧ (∀ x ∈ B.take j, x ∈ (G ++ G').map (·.1)) ∧ H' lv = some (.lst us) ∧ PrsG H' n us Lq ∧ H' al = some (.lst as) ∧ PrsG H' n as B ∧ Kp [] H H') ?_ (fun j σ H' _ h => by obtain ⟨_, _, _, _, _, _, _, _, _, _, _, _, _, _, _, a, _⟩ := h; exact sq_l a) ?_ ?_⟩
              · exact ⟨⟨_, _, _, _, _, _, rfl⟩, G', ns, Nq, hE4.kp k5, dn_kp hG4 k5, k5 _ _ not0 hnr4, hns4.kp k5, eG, nd4, ok4, all4, (fun x h => nomatch h), k5 _ _ not0 hlv4, hus4.kp k5, hal, has, k4.trans k5⟩
              · rintro j pb σ H6 hxb ⟨⟨c8, c9, c10, c11, c12, c14, rfl⟩, G', ns, Nq, hE6, hG6, hnr6, hns6, eG, nd6, ok6, all6, in6, hlv6, hus6, hal6, has6, k6⟩
                have jx : j < B.length := by rw [← has.1]; exact (List.getElem?_eq_some_iff.mp hxb).1
                have exb := List.getElem?_eq_getElem jx
                generalize B[j] = x at exb
                obtain ⟨pb', epb, hpb⟩ := has6.2 j x exb
                rw [hxb] at epb
                cases epb
                obtain ⟨z, hxz, hzy⟩ := (hBm x).mp (List.mem_of_getElem? exb)
                have xFz : x ∈ F ∧ z ∈ zs := by
                  obtain ⟨x', hx', hz'⟩ := List.mem_flatMap.mp hxz
                  obtain ⟨z', hz', e⟩ := List.mem_map.mp hz'
                  cases e
                  exact ⟨hx', hz'⟩
                obtain ⟨pa', epa', hpa6⟩ := hus6.2 i y ex
                rw [hx] at epa'
                cases epa'
                try simp (maxSteps := 1000000) only [tSeq, tIfS, tTest, tOp, tUn, tCB, tCons, tNil, tVar, tC, rI0, rI, rU, rEq, rNe, tRet, tRetN, tAsg, gName, gSub, tBM, tBM0, tNext, tB, tNot, tAnd, tOr, tIf, tCall, tDrop, tBreak, tCont, L2.start, tDGet, sDPut, tTup, tLst, tDNewK, tRevL, rCat, rAppend, rPop, rSetL, tAndV, tOrV, tNotV, tSl, tPart, tNoPart, tM1, gTup, gCons, gNil, cxK, cxnK, List.map_cons, List.map_nil, List.length_cons, List.length_nil, List.replicate, List.cons_append, List.nil_append, List.append_nil, List.set_cons_zero, List.set_cons_succ, List.getElem?_cons_zero, List.getElem?_cons_succ, Option.some.injEq, V.ref.injEq, V.int.injEq, V.str.injEq, V.bl.injEq, V.ty.injEq, exists_eq_left', exists_eq_left, exists_and_left, List.cons.injEq, and_true, true_and, sc_ii, sc_ss, sc_bb, sc_ni, sc_in, sc_is, sc_si, sc_nn, decide_true, decide_false, reduceCtorEq, Bool.false_eq_true, if_true, if_false, ite_true, ite_false, exists_const, eq_self, false_and, and_false, or_false, false_or, exists_false, Evl.rLenS, rSum, wipe, tYes, exists_eq, exists_eq', rIxL, rIxT, rIxS, exists_and_right, gt_iff_lt, not_true_eq_false, not_false_eq_true, Bool.not_true, Bool.not_false, decide_eq_true_eq, Nat.reduceSub, Nat.reduceAdd, List.append_assoc, tChain, tDIn, tDNotIn, sDDel, tAug, ipI, tNNotIn, sNPut, tNDef, tNGet, tNGor]
                refine ⟨_, hG6, keyG n x, nk_pair hpb, ?_⟩
                have inS : ∀ x', x' ∈ B.take (j + 1) → x' ∈ B.take j ∨ x' = x := fun x' hx' => by
                  rw [take_snoc exb] at hx'
                  rcases List.mem_append.mp hx' with hx' | hx'
                  · exact .inl hx'
                  · exact .inr (List.mem_singleton.mp hx')
                by_cases hin : x ∈ (G ++ G').map (·.1)
                · have : (valN ((G ++ G').map fun g => (keyG n g.1, V.int ((g.2 : Nat) + 1))) (keyG n x)).isSome = true := by
                    obtain ⟨g, hg, rfl⟩ := List.mem_map.mp hin
                    rw [lv_val (k := g.2) nd6 hg]
                    rfl
                  rw [this, if_neg (by decide)]
                  refine ⟨hE6, G', hG6, ns, hnr6, Nq, hns6, eG, nd6, ok6, all6, fun x' hx' => ?_, hlv6, hus6, hal6, has6, k6⟩
                  rcases inS x' hx' with hx' | rfl
                  · exact in6 x' hx'
                  · exact hin
                · rw [lv_none hin, if_pos (by decide)]
                  have yG : (y, tt) ∈ G ++ G' := List.mem_append_left _ (hok.all y yin.1 tt (Nat.le_refl _) yin.2)
                  have dx : DistIs zs c c' n x (tt + 1) := by
                    obtain ⟨k, hk, hd⟩ := dist_ex (WdP.succ.mpr ⟨z, xFz.2, by rw [hzy]; exact yin.2.1⟩)
                    by_cases w : k ≤ tt
                    · refine absurd ?_ hin
                      exact List.mem_map.mpr ⟨_, List.mem_append_left _ (hok.all x xFz.1 k w hd), rfl⟩
                    · have : k = tt + 1 := by omega
                      exact this ▸ hd
                  have Gl : (G ++ G').length ≤ 10000 := by
                    have := nodup_lenP (l := (G ++ G').map (·.1)) (m := F) nd6 fun y hy => by
                      obtain ⟨g, hg, rfl⟩ := List.mem_map.mp hy
                      rcases List.mem_append.mp hg with hg | hg
                      · exact (hok.ok g hg).1
                      · rw [eG] at hg
                        obtain ⟨q, hq, rfl⟩ := List.mem_map.mp hg
                        exact (ok6 q hq).1
                    have h2 := nodup_lenP (l := F) (m := List.range (m * n)) ndF fun y hy => List.mem_range.mpr (hF y hy).1
                    rw [List.length_map] at this
                    rw [List.length_range] at h2
                    omega
                  have nsl : ns.length ≤ 10000 := by
                    have : G'.length = Nq.length := by rw [eG, List.length_map]
                    rw [hns6.1, ← this]
                    rw [List.length_append] at Gl
                    omega
                  refine ⟨_, hG6, keyG n y, nk_pair hpa6, _, lv_val nd6 yG, _, rfl, _, hG6, keyG n x, nk_pair hpb, smallL (by rw [List.length_map]; omega), fun ob hob => ?_⟩
                  have hob' : DnAt P w (upd H6 sd ob) sd ((G ++ G' ++ [(x, tt + 1)]).map fun g : Nat × Nat => (keyG n g.1, V.int ((g.2 : Nat) + 1))) := by
                    rw [← lv_put hin]
                    exact hob
                  have kL : ∀ b us, H6 b = some (.lst us) → (upd H6 sd ob) b = some (.lst us) := fun b us e => by rw [upd_ne (dn_nl hG6 e)]; exact e
                  have kT : ∀ b us, H6 b = some (.tup us) → (upd H6 sd ob) b = some (.tup us) := fun b us e => by rw [upd_ne (dn_nt hG6 e)]; exact e
                  have hnr7 := kL _ _ hnr6
                  have kk : ∀ b us, b ≠ nr → H6 b = some (.lst us) → (upd (upd H6 sd ob) nr (.lst (ns ++ [.ref pb']))) b = some (.lst us) := fun b us ne e => by rw [upd_ne ne]; exact kL _ _ e
                  have tt' : ∀ b us, H6 b = some (.tup us) → (upd (upd H6 sd ob) nr (.lst (ns ++ [.ref pb']))) b = some (.tup us) := fun b us e => by
                    rw [upd_ne (fun z => by rw [z, hnr6] at e; cases e)]
                    exact kT _ _ e
                  have lvnr : lv ≠ nr := fun z => by rw [z, nnr] at hlv; cases hlv
                  refine ⟨.inl ⟨rfl, _, sq_l hnr7⟩, ns, hnr7, smallL (by omega), (hE6.wd hG6 bs).wl hnr7 (fun e he z => ?_), G' ++ [(x, tt + 1)], ?_, _, upd_same, Nq ++ [x], (hns6.tp tt').snoc (tt' _ _ hpb), by rw [eG, List.map_append]; rfl, ?_, fun q hq => ?_, fun y' hy' x' hx' z' hz' e => ?_, fun x' hx' => ?_, kk _ _ lvnr hlv6, hus6.tp tt', kk _ _ anr hal6, has6.tp tt', (k6.wr nsd).wr nnr0⟩
                  · obtain ⟨_, _, vs2, _, hl2, _⟩ := hE.2.2.2.1 e he
                    rw [z, nnr] at hl2
                    cases hl2
                  · rw [← List.append_assoc]
                    exact dn_wr hob' hnr7 (Ne.symm (dn_nl hob' hnr7))
                  · rw [← List.append_assoc, List.map_append, List.nodup_append]
                    refine ⟨nd6, by simp, fun a ha b hb e => ?_⟩
                    have : b = x := by simpa using hb
                    exact hin (by rw [← this, ← e]; exact ha)
                  · rcases List.mem_append.mp hq with hq | hq
                    · exact ok6 q hq
                    · rw [List.mem_singleton.mp hq]; exact ⟨xFz.1, dx⟩
                  · rw [← List.append_assoc, List.map_append]
                    exact List.mem_append_left _ (all6 y' hy' x' hx' z' hz' e)
                  · rw [← List.append_assoc, List.map_append]
                    rcases inS x' hx' with hx' | rfl
                    · exact List.mem_append_left _ (in6 x' hx')
                    · exact List.mem_append_right _ List.mem_cons_self
              · rintro σ H6 ⟨⟨c8, c9, c10, c11, c12, c14, rfl⟩, G', ns, Nq, hE6, hG6, hnr6, hns6, eG, nd6, ok6, all6, in6, hlv6, hus6, hal6, has6, k6⟩
                rw [has.1, List.take_length] at in6
                refine ⟨⟨_, _, _, _, _, _, _, rfl⟩, G', ns, Nq, hE6, hG6, hnr6, hns6, eG, nd6, ok6, fun y' hy' x hx z hz e => ?_, hlv6, hus6, k6⟩
                rw [take_snoc ex] at hy'
                rcases List.mem_append.mp hy' with hy' | hy'
                · exact all6 y' hy' x hx z hz e
                · rw [List.mem_singleton.mp hy'] at e
                  exact in6 x ((hBm x).mpr ⟨z, List.mem_flatMap.mpr ⟨x, hx, List.mem_map.mpr ⟨z, hz, rfl⟩⟩, e⟩)
          · rintro σ H4 ⟨⟨c7, c8, c9, c10, c11, c12, c14, rfl⟩, G', ns, Nq, hE4, hG4, hnr4, hns4, eG, nd4, ok4, all4, hlv4, hus4, k4⟩
            rw [hus.1, List.take_length] at all4
            try simp (maxSteps := 1000000) only [tSeq, tIfS, tTest, tOp, tUn, tCB, tCons, tNil, tVar, tC, rI0, rI, rU, rEq, rNe, tRet, tRetN, tAsg, gName, gSub, tBM, tBM0, tNext, tB, tNot, tAnd, tOr, tIf, tCall, tDrop, tBreak, tCont, L2.start, tDGet, sDPut, tTup, tLst, tDNewK, tRevL, rCat, rAppend, rPop, rSetL, tAndV, tOrV, tNotV, tSl, tPart, tNoPart, tM1, gTup, gCons, gNil, cxK, cxnK, List.map_cons, List.map_nil, List.length_cons, List.length_nil, List.replicate, List.cons_append, List.nil_append, List.append_nil, List.set_cons_zero, List.set_cons_succ, List.getElem?_cons_zero, List.getElem?_cons_succ, Option.some.injEq, V.ref.injEq, V.int.injEq, V.str.injEq, V.bl.injEq, V.ty.injEq, exists_eq_left', exists_eq_left, exists_and_left, List.cons.injEq, and_true, true_and, sc_ii, sc_ss, sc_bb, sc_ni, sc_in, sc_is, sc_si, sc_nn, decide_true, decide_false, reduceCtorEq, Bool.false_eq_true, if_true, if_false, ite_true, ite_false, exists_const, eq_self, false_and, and_false, or_false, false_or, exists_false, Evl.rLenS, rSum, wipe, tYes, exists_eq, exists_eq', rIxL, rIxT, rIxS, exists_and_right, gt_iff_lt, not_true_eq_false, not_false_eq_true, Bool.not_true, Bool.not_false, decide_eq_true_eq, Nat.reduceSub, Nat.reduceAdd, List.append_assoc, tChain, tDIn, tDNotIn, sDDel, tAug, ipI, tNNotIn, sNPut, tNDef, tNGet, tNGor]
            have eM : G'.map (·.1) = Nq := by
              rw [eG, List.map_map]
              exact List.map_id' Nq
            have inN : ∀ x, x ∈ F → DistIs zs c c' n x (tt + 1) → x ∈ Nq := fun x hx hd => by
              obtain ⟨z, hz, h1⟩ := hd.step
              have hy := (lmem _).mpr ⟨(hF x hx).2 z hz, h1⟩
              have := all4 _ hy x hx z hz rfl
              rw [List.map_append, List.mem_append, eM] at this
              rcases this with h | h
              · obtain ⟨g, hg, rfl⟩ := List.mem_map.mp h
                obtain ⟨_, b1, b2⟩ := hok.ok g hg
                have := b1.uniq hd
                omega
              · exact h
            refine ⟨ns, .inl (sq_l hnr4), fun l nl' => ?_⟩
            have kl := (Kp.new nl' : Kp [] H4 (upd H4 l (.lst ns)))
            refine ⟨F.length + 1 - (tt + 1), by omega, tt + 1, ents, G ++ G', l, ns, Nq, _, _, _, _, _, _, _, _, rfl, hE4.kp kl, dn_kp hG4 kl, upd_same, hns4.kp kl, ?_, fun x => ⟨fun h => ok4 x h, fun h => inN x h.1 h.2⟩, ⟨nd4, fun g hg => ?_, fun x hx k hk hd => ?_⟩, k4.trans kl, rfl⟩
            · rw [List.map_append, eM] at nd4
              exact (List.nodup_append.mp nd4).2.1
            · rcases List.mem_append.mp hg with hg | hg
              · obtain ⟨a, b, d⟩ := hok.ok g hg
                exact ⟨a, b, by omega⟩
              · rw [eG] at hg
                obtain ⟨x, hx, rfl⟩ := List.mem_map.mp hg
                exact ⟨(ok4 x hx).1, (ok4 x hx).2, Nat.le_refl _⟩
            · by_cases w : k ≤ tt
              · exact List.mem_append_left _ (hok.all x hx k w hd)
              · have : k = tt + 1 := by omega
                subst this
                exact List.mem_append_right _ (by rw [eG]; exact List.mem_map.mpr ⟨x, inN x hx hd, rfl⟩)
        · rw [if_neg (by omega)]
          have down : ∀ d x, x ∈ F → DistIs zs c c' n x (tt + d) → ∃ y, y ∈ F ∧ DistIs zs c c' n y tt := fun d => by
            induction d with
            | zero => exact fun x hx h => ⟨x, hx, h⟩
            | succ d ih =>
              intro x hx h
              obtain ⟨z, hz, h1⟩ := DistIs.step (k := tt + d) h
              exact ih _ ((hF x hx).2 z hz) h1
          refine q sd G H2 nsd hG hok.nd (fun g hg => (hok.ok g hg).2.1) (fun x hx k hd => ?_) k2
          by_cases w : k ≤ tt
          · exact hok.all x hx k w hd
          · exfalso
            obtain ⟨y, hy, hyd⟩ := down (k - tt) x hx (by rw [show tt + (k - tt) = k by omega]; exact hd)
            have := (lmem y).mpr ⟨hy, hyd⟩
            exact emp (List.length_pos_of_mem this)
    refine ⟨_, (pss_cons (ps_set (i := 4) sc_law_left.nd rfl (Or.inl rfl) pe_dnewK)
      (pss_cons (ps_set (i := 5) sc_law_left.nd rfl (Or.inl rfl) pe_dnewK)
      (pss_cons (ps_set (i := 6) sc_law_left.nd rfl (Or.inl rfl) (pe_lst pa_nil))
      (pss_cons (ps_for PassesOwn.never rfl (pi_list (pv 3)) (pg_name (i := 7) sc_law_left.nd rfl (Or.inl rfl)) (pss_cons (ps_set (i := 8) sc_law_left.nd rfl (Or.inl rfl) pe_bl)
      (pss_cons (ps_for PassesOwn.never rfl (pi_list (pv 2)) (pg_name (i := 9) sc_law_left.nd rfl (Or.inl rfl)) (pss_cons (ps_set (i := 10) sc_law_left.nd rfl (Or.inl rfl) (pe_ix (r := rIxL K) ix_list (pe_dget hu (pv 0) (pv 9) (fun _ _ => rfl)) (pe_ix (r := rIxT K) ix_tup (pv 7) pe_int (fun _ _ => rfl)) (fun _ _ => rfl)))
      (pss_cons (ps_set (i := 11) sc_law_left.nd rfl (Or.inl rfl) (pe_ix (r := rIxL K) ix_list (pe_dget hu (pv 1) (pv 9) (fun _ _ => rfl)) (pe_ix (r := rIxT K) ix_tup (pv 7) pe_int (fun _ _ => rfl)) (fun _ _ => rfl)))
      (pss_cons (ps_set (i := 8) sc_law_left.nd rfl (Or.inl rfl) (pe_or (pv 8) (pe_one (pe_cmpR op_ne (pe_ix (r := rIxT K) ix_tup (pv 10) pe_int (fun _ _ => rfl)) (pe_ix (r := rIxT K) ix_tup (pv 11) pe_int (fun _ _ => rfl)) (nomark _)))))
      (pss_cons (ps_set (i := 12) sc_law_left.nd rfl (Or.inl rfl) (pe_ndef hr.units (pv 4) (pa_cons (pe_tup (pa_cons (pe_ix (r := rIxT K) ix_tup (pv 10) pe_int (fun _ _ => rfl)) (pa_cons (pe_ix (r := rIxT K) ix_tup (pv 11) pe_int (fun _ _ => rfl)) pa_nil))) (pa_cons (pe_lst pa_nil) pa_nil))))
      (pss_one (ps_expr (pe_bm PySem.F.plainAttrs_list PySem.F.slot_list_append PySem.F.type_list_append mt_append (pv 12) (pa_cons (pv 7) pa_nil)))))))))
      (pss_one (ps_if (pt_val (pv 8)) (pss_cons (ps_nput hr.units (pv 5) (pv 7) pe_int rfl)
      (pss_one (ps_expr (pe_bm PySem.F.plainAttrs_list PySem.F.slot_list_append PySem.F.type_list_append mt_append (pv 6) (pa_cons (pv 7) pa_nil))))) pss_nil)))))
      ht)))), ?_⟩
    try simp (maxSteps := 1000000) only [tSeq, tIfS, tTest, tOp, tUn, tCB, tCons, tNil, tVar, tC, rI0, rI, rU, rEq, rNe, tRet, tRetN, tAsg, gName, gSub, tBM, tBM0, tNext, tB, tNot, tAnd, tOr, tIf, tCall, tDrop, tBreak, tCont, L2.start, tDGet, sDPut, tTup, tLst, tDNewK, tRevL, rCat, rAppend, rPop, rSetL, tAndV, tOrV, tNotV, tSl, tPart, tNoPart, tM1, gTup, gCons, gNil, cxK, cxnK, List.map_cons, List.map_nil, List.length_cons, List.length_nil, List.replicate, List.cons_append, List.nil_append, List.append_nil, List.set_cons_zero, List.set_cons_succ, List.getElem?_cons_zero, List.getElem?_cons_succ, Option.some.injEq, V.ref.injEq, V.int.injEq, V.str.injEq, V.bl.injEq, V.ty.injEq, exists_eq_left', exists_eq_left, exists_and_left, List.cons.injEq, and_true, true_and, sc_ii, sc_ss, sc_bb, sc_ni, sc_in, sc_is, sc_si, sc_nn, decide_true, decide_false, reduceCtorEq, Bool.false_eq_true, if_true, if_false, ite_true, ite_false, exists_const, eq_self, false_and, and_false, or_false, false_or, exists_false, Evl.rLenS, rSum, wipe, tYes, exists_eq, exists_eq', rIxL, rIxT, rIxS, exists_and_right, gt_iff_lt, not_true_eq_false, not_false_eq_true, Bool.not_true, Bool.not_false, decide_eq_true_eq, Nat.reduceSub, Nat.reduceAdd, List.append_assoc, tChain, tDIn, tDNotIn, sDDel, tAug, ipI, tNNotIn, sNPut, tNDef, tNGet, tNGor]
    intro bd nbd sd nsd
    refine ⟨Nat.zero_le _, fun vl nvl => ?_⟩
    have kB := (Kp.new nbd : Kp [] H (upd H bd (.dK [])))
    have kS := kB.trans (Kp.new nsd (o := .dK []))
    have kV := kS.trans (Kp.new nvl (o := .lst []))
    have nsd0 : H sd = none := noneB kB nsd
    have nvl0 : H vl = none := noneB kS nvl
    have bs : bd ≠ sd := fun z => by rw [← z, upd_same] at nsd; cases nsd
    have hbd := ((Kp.new nsd (S := []) (o := .dK [])).trans (Kp.new nvl (o := .lst []))) _ _ not0 (upd_same (H := H) (a := bd) (o := .dK []))
    have hsd := (Kp.new nvl (S := []) (o := .lst [])) _ _ not0 (upd_same (H := upd H bd (.dK [])) (a := sd) (o := .dK []))
    have hvl : (upd (upd (upd H bd (.dK [])) sd (.dK [])) vl (.lst [])) vl = some (.lst []) := upd_same
    generalize upd (upd (upd H bd (.dK [])) sd (.dK [])) vl (.lst []) = H3 at kV hbd hsd hvl ⊢
    have h0 : Lf1 P w zs c c' n (m * n) (F.take 0) (edg zs (F.take 0)) H bd sd vl H3 := ⟨[], [], [], ⟨.inl ⟨hbd, rfl⟩, List.nodup_nil, List.nodup_nil, (fun e h => nomatch h), (fun e h => nomatch h)⟩, .inl ⟨hsd, rfl⟩, hvl, ⟨rfl, fun i x e => by cases e⟩, List.nodup_nil, (fun e h => nomatch h), (fun e h => nomatch h), (fun e h => nomatch h), kV⟩
    refine ⟨.ref pl, rfl, pl, rfl, ⟨_, sq_l (kV _ _ not0 hpl)⟩, for_list (K := K) (a := pl) (xs := ps) (fun i σ H' => (∃ c7 c8 c9 c10 c11 c12 c13 c14 : Option V, σ = [some (.ref rd), some (.ref ld), some (.ref nl), some (.ref pl), some (.ref bd), some (.ref sd), some (.ref vl), c7, c8, c9, c10, c11, c12, c13, c14]) ∧ Lf1 P w zs c c' n (m * n) (F.take i) (edg zs (F.take i)) H bd sd vl H') ⟨⟨_, _, _, _, _, _, _, _, rfl⟩, h0⟩ (fun i σ H' _ h => by obtain ⟨_, _, _, _, _, _, _, _, _, _, _, _, k⟩ := h; exact k.ls not0 (sq_l hpl)) ?_ ?_⟩
    · rintro i px σ H4 hx ⟨⟨c7, c8, c9, c10, c11, c12, c13, c14, rfl⟩, hL⟩
      have ix : i < F.length := by rw [← hps.1]; exact (List.getElem?_eq_some_iff.mp hx).1
      have ex := List.getElem?_eq_getElem ix
      generalize F[i] = x at ex
      obtain ⟨pa, epa, hpa0⟩ := hps.2 i x ex
      rw [hx] at epa
      cases epa
      have xin := List.mem_of_getElem? ex
      have xm := (hF x xin).1
      have sm := pair_in xm
      have k4 : Kp [] H H4 := by obtain ⟨_, _, _, _, _, _, _, _, _, _, _, k⟩ := hL; exact k
      try simp (maxSteps := 1000000) only [tSeq, tIfS, tTest, tOp, tUn, tCB, tCons, tNil, tVar, tC, rI0, rI, rU, rEq, rNe, tRet, tRetN, tAsg, gName, gSub, tBM, tBM0, tNext, tB, tNot, tAnd, tOr, tIf, tCall, tDrop, tBreak, tCont, L2.start, tDGet, sDPut, tTup, tLst, tDNewK, tRevL, rCat, rAppend, rPop, rSetL, tAndV, tOrV, tNotV, tSl, tPart, tNoPart, tM1, gTup, gCons, gNil, cxK, cxnK, List.map_cons, List.map_nil, List.length_cons, List.length_nil, List.replicate, List.cons_append, List.nil_append, List.append_nil, List.set_cons_zero, List.set_cons_succ, List.getElem?_cons_zero, List.getElem?_cons_succ, Option.some.injEq, V.ref.injEq, V.int.injEq, V.str.injEq, V.bl.injEq, V.ty.injEq, exists_eq_left', exists_eq_left, exists_and_left, List.cons.injEq, and_true, true_and, sc_ii, sc_ss, sc_bb, sc_ni, sc_in, sc_is, sc_si, sc_nn, decide_true, decide_false, reduceCtorEq, Bool.false_eq_true, if_true, if_false, ite_true, ite_false, exists_const, eq_self, false_and, and_false, or_false, false_or, exists_false, Evl.rLenS, rSum, wipe, tYes, exists_eq, exists_eq', rIxL, rIxT, rIxS, exists_and_right, gt_iff_lt, not_true_eq_false, not_false_eq_true, Bool.not_true, Bool.not_false, decide_eq_true_eq, Nat.reduceSub, Nat.reduceAdd, List.append_assoc, tChain, tDIn, tDNotIn, sDDel, tAug, ipI, tNNotIn, sNPut, tNDef, tNGet, tNGor]
      have hn4 := k4 _ _ not0 hn
      refine ⟨.ref nl, rfl, nl, rfl, ⟨_, sq_l hn4⟩, for_list (K := K) (a := nl) (xs := zs.map V.str) (fun j σ H' => (∃ (c9 c10 c11 c12 c13 c14 : Option V) (b : Bool), σ = [some (.ref rd), some (.ref ld), some (.ref nl), some (.ref pl), some (.ref bd), some (.ref sd), some (.ref vl), some (.ref pa), some (.bl b), c9, c10, c11, c12, c13, c14] ∧ (b = true ↔ ∃ z ∈ zs.take j, (c z (x / n)).1 ≠ (c' z (x % n)).1)) ∧ Lf1 P w zs c c' n (m * n) (F.take i) (edg zs (F.take i) ++ (zs.take j).map fun z => (x, z)) H bd sd vl H') ⟨⟨_, _, _, _, _, _, false, rfl, ⟨fun z => (nomatch z), fun ⟨z, hz, _⟩ => (nomatch hz)⟩⟩, by rw [List.take_zero, List.map_nil, List.append_nil]; exact hL⟩ (fun j σ H' _ h => by obtain ⟨_, _, _, _, _, _, _, _, _, _, _, _, k⟩ := h; exact k.ls not0 (sq_l hn)) ?_ ?_⟩
      · rintro j x0 σ H5 hx5 ⟨⟨c9, c10, c11, c12, c13, c14, b, rfl, hbb⟩, hL5⟩
        obtain ⟨z, ez, rfl⟩ : ∃ z, zs[j]? = some z ∧ V.str z = x0 := by
          rw [List.getElem?_map] at hx5
          cases e : zs[j]? with
          | none => rw [e] at hx5; cases hx5
          | some z => rw [e] at hx5; exact ⟨z, rfl, Option.some.inj hx5⟩
        have hz := List.mem_of_getElem? ez
        have k5 : Kp [] H H5 := by obtain ⟨_, _, _, _, _, _, _, _, _, _, _, k⟩ := hL5; exact k
        obtain ⟨kv, l1, x1, hd1, ev1, hl1', hc1⟩ := (hrw.kp k5).get nd hz
        obtain ⟨t1, et1, ht1⟩ := hc1.2 _ sm.1
        obtain ⟨kv', l2, x2, hd2, ev2, hl2', hc2⟩ := (hlw.kp k5).get nd hz
        obtain ⟨t2, et2, ht2⟩ := hc2.2 _ sm.2
        have hpa5 := k5 _ _ not0 hpa0
        have pnx : (c z (x / n)).2 = ((nx (pairC c c' n) z x / n : Nat) : Int) ∧ (c' z (x % n)).2 = ((nx (pairC c c' n) z x % n : Nat) : Int) := by
          obtain ⟨_, w1, w2⟩ := hb z hz _ sm.1
          obtain ⟨_, w3, w4⟩ := hb' z hz _ sm.2
          have nx2 : nx c' z (x % n) < n := by unfold nx; omega
          rw [pair_nx, pair_div nx2, pair_mod nx2]
          unfold nx
          exact ⟨(Int.toNat_of_nonneg w1).symm, (Int.toNat_of_nonneg w3).symm⟩
        rw [pnx.1] at ht1
        rw [pnx.2] at ht2
        have hdn5 : ∃ kvs, DnAt P w H5 bd kvs := by
          obtain ⟨ents, _, _, hE, _⟩ := id hL5
          exact ⟨_, hE.1⟩
        try simp (maxSteps := 1000000) only [tSeq, tIfS, tTest, tOp, tUn, tCB, tCons, tNil, tVar, tC, rI0, rI, rU, rEq, rNe, tRet, tRetN, tAsg, gName, gSub, tBM, tBM0, tNext, tB, tNot, tAnd, tOr, tIf, tCall, tDrop, tBreak, tCont, L2.start, tDGet, sDPut, tTup, tLst, tDNewK, tRevL, rCat, rAppend, rPop, rSetL, tAndV, tOrV, tNotV, tSl, tPart, tNoPart, tM1, gTup, gCons, gNil, cxK, cxnK, List.map_cons, List.map_nil, List.length_cons, List.length_nil, List.replicate, List.cons_append, List.nil_append, List.append_nil, List.set_cons_zero, List.set_cons_succ, List.getElem?_cons_zero, List.getElem?_cons_succ, Option.some.injEq, V.ref.injEq, V.int.injEq, V.str.injEq, V.bl.injEq, V.ty.injEq, exists_eq_left', exists_eq_left, exists_and_left, List.cons.injEq, and_true, true_and, sc_ii, sc_ss, sc_bb, sc_ni, sc_in, sc_is, sc_si, sc_nn, decide_true, decide_false, reduceCtorEq, Bool.false_eq_true, if_true, if_false, ite_true, ite_false, exists_const, eq_self, false_and, and_false, or_false, false_or, exists_false, Evl.rLenS, rSum, wipe, tYes, exists_eq, exists_eq', rIxL, rIxT, rIxS, exists_and_right, gt_iff_lt, not_true_eq_false, not_false_eq_true, Bool.not_true, Bool.not_false, decide_eq_true_eq, Nat.reduceSub, Nat.reduceAdd, List.append_assoc, tChain, tDIn, tDNotIn, sDDel, tAug, ipI, tNNotIn, sNPut, tNDef, tNGet, tNGor]
        refine ⟨_, ev1 ▸ DGet.k (k := Sum.inr z) hd1, _, sq_t hpa5, _, rfl, l1, rfl, x1, _, rfl, sq_l hl1', _, atI_nat et1, _, ev2 ▸ DGet.k (k := Sum.inr z) hd2, _, sq_t hpa5, _, rfl, l2, rfl, x2, _, rfl, sq_l hl2', _, atI_nat et2, ?_⟩
        have core : ∀ (p p1 : Addr) (H6 : Hp), H5 p = none → H6 = upd H5 p (.tup [.int (nx (pairC c c' n) z x / n : Nat), .int (nx (pairC c c' n) z x % n : Nat)]) → H6 p1 = none → ∃ kvs, DnAt P w (upd H6 p1 (.lst [])) bd kvs ∧ NKey (upd H6 p1 (.lst [])) (.ref p) (keyG n (nx (pairC c c' n) z x)) ∧ kvs.length < sizeLine ∧
            (∀ v', valN kvs (keyG n (nx (pairC c c' n) z x)) = some v' → ∃ l qs, v' = .ref l ∧ (upd H6 p1 (.lst [])) l = some (.lst qs) ∧ qs.length < sizeLine ∧ Lf1 P w zs c c' n (m * n) (F.take i) (edg zs (F.take i) ++ (zs.take (j + 1)).map fun z => (x, z)) H bd sd vl (upd (upd H6 p1 (.lst [])) l (.lst (qs ++ [.ref pa])))) ∧
            (valN kvs (keyG n (nx (pairC c c' n) z x)) = none → ∀ ob, DnAt P w (upd (upd H6 p1 (.lst [])) bd ob) bd (putN kvs (keyG n (nx (pairC c c' n) z x)) (.ref p1)) → (upd (upd H6 p1 (.lst [])) bd ob) p1 = some (.lst []) ∧ Lf1 P w zs c c' n (m * n) (F.take i) (edg zs (F.take i) ++ (zs.take (j + 1)).map fun z => (x, z)) H bd sd vl (upd (upd (upd H6 p1 (.lst [])) bd ob) p1 (.lst ([] ++ [.ref pa])))) := by
          intro p p1 H6 np e6 np1
          have kp : Kp [] H5 H6 := by rw [e6]; exact Kp.new np
          have hp : H6 p = some (.tup [.int (nx (pairC c c' n) z x / n : Nat), .int (nx (pairC c c' n) z x % n : Nat)]) := by rw [e6]; exact upd_same
          have kq := kp.trans (Kp.new np1 (o := .lst []))
          have hp7 := (Kp.new np1 (S := []) (o := .lst [])) _ _ not0 hp
          have hp1 : (upd H6 p1 (.lst [])) p1 = some (.lst []) := upd_same
          obtain ⟨ents, G, qs, hE5, hG5, hvl5, hqs5, g1, g2, g3, g4, k55⟩ := id hL5
          have live : ∀ e ∈ ents, e.2 ≠ p1 := fun e he z => by
            obtain ⟨_, _, us, _, hl, _⟩ := hE5.2.2.2.1 e he
            have := kp _ _ not0 hl
            rw [z, np1] at this
            cases this
          have hE := hE5.kp kq
          have hG : LvAt P w zs c c' n G sd (upd H6 p1 (.lst [])) := dn_kp hG5 kq
          have hvl := kq _ _ not0 hvl5
          have hqs := hqs5.kp kq
          have k7 := k55.trans kq
          have vp1 : vl ≠ p1 := fun z => by
            have := kp _ _ not0 hvl5
            rw [z, np1] at this
            cases this
          have hpa7 := kq _ _ not0 hpa5
          have n01 : H p1 = none := noneB (k55.trans kp) np1
          have eE : edg zs (F.take i) ++ (zs.take (j + 1)).map (fun z => (x, z)) = (edg zs (F.take i) ++ (zs.take j).map fun z => (x, z)) ++ [(x, z)] := by
            rw [take_snoc ez, List.map_append, List.append_assoc]
            rfl
          rw [eE]
          have M4 := hE.len
          have Elen : (edg zs (F.take i) ++ (zs.take j).map fun z => (x, z)).length ≤ 60010 := by
            have h2 := nodup_lenP (l := F) (m := List.range (m * n)) ndF fun y hy => List.mem_range.mpr (hF y hy).1
            rw [List.length_range] at h2
            rw [List.length_append, edg_len, List.length_map, List.length_take, List.length_take]
            have h3 : min i F.length * zs.length ≤ 10000 * 6 := Nat.mul_le_mul (by omega) z6
            omega
          have yM : nx (pairC c c' n) z x < m * n := (hF _ ((hF x xin).2 z hz)).1
          generalize edg zs (F.take i) ++ (zs.take j).map (fun z => (x, z)) = E0 at *
          generalize upd H6 p1 (.lst []) = H7 at *
          -- a list is written
          have wr : ∀ (H8 : Hp) (ents' : List (Nat × Addr)) (l : Addr) (us : List V), BkE P w H (pairC c c' n) n (m * n) E0 bd H8 ents' → (nx (pairC c c' n) z x, l) ∈ ents' → H8 l = some (.lst us) → LvAt P w zs c c' n G sd H8 → H8 vl = some (.lst qs) → PrsG H8 n qs (G.map (·.1)) → (∀ e ∈ ents', e.2 ≠ vl) → H8 pa = some (.tup [.int (x / n : Nat), .int (x % n : Nat)]) → Kp [] H H8 → Lf1 P w zs c c' n (m * n) (F.take i) (E0 ++ [(x, z)]) H bd sd vl (upd H8 l (.lst (us ++ [.ref pa]))) := by
            intro H8 ents' l us aE am al aG av aq ag ap ak
            have lv : l ≠ vl := ag _ am
            refine ⟨ents', G, qs, aE.old am rfl al ap, dn_wr aG al (Ne.symm (dn_nl aG al)), by rw [upd_ne (Ne.symm lv)]; exact av, aq.tp fun b us e => by rw [upd_ne (fun q => by rw [q, al] at e; cases e)]; exact e, g1, g2, g3, ag, ak.wr (aE.2.2.2.1 _ am).2.1⟩
          refine ⟨_, hE.1, nk_pair hp7, smallL (by rw [List.length_map]; omega), fun v' hv => ?_, fun hv ob hob => ?_⟩
          · by_cases hin : nx (pairC c c' n) z x ∈ ents.map (·.1)
            · obtain ⟨e, he, e1⟩ := List.mem_map.mp hin
              have he' : (nx (pairC c c' n) z x, e.2) ∈ ents := by rw [← e1]; exact he
              rw [ent_val hE.2.1 he'] at hv
              cases hv
              obtain ⟨_, _, us, B, hl, hB, hBl, _⟩ := hE.2.2.2.1 e he
              exact ⟨e.2, us, rfl, hl, smallL (by rw [hB.1]; omega), wr H7 ents e.2 us hE he' hl hG hvl hqs g4 hpa7 k7⟩
            · rw [ent_none hin] at hv
              cases hv
          · have hin : nx (pairC c c' n) z x ∉ ents.map (·.1) := fun h => by
              obtain ⟨e, he, e1⟩ := List.mem_map.mp h
              have he' : (nx (pairC c c' n) z x, e.2) ∈ ents := by rw [← e1]; exact he
              rw [ent_val hE.2.1 he'] at hv
              cases hv
            have hE8 := hE.fresh hin yM hp1 n01 live hob
            have kL : ∀ b us, H7 b = some (.lst us) → (upd H7 bd ob) b = some (.lst us) := fun b us e => by rw [upd_ne (dn_nl hE.1 e)]; exact e
            have kT : ∀ b us, H7 b = some (.tup us) → (upd H7 bd ob) b = some (.tup us) := fun b us e => by rw [upd_ne (dn_nt hE.1 e)]; exact e
            exact ⟨kL _ _ hp1, wr _ _ p1 [] hE8 (List.mem_append_right _ List.mem_cons_self) (kL _ _ hp1) (dn_wd hG hE.1 (Ne.symm bs)) (kL _ _ hvl) (hqs.tp kT) (fun e he => by
              rcases List.mem_append.mp he with he | he
              · exact g4 e he
              · rw [List.mem_singleton.mp he]; exact Ne.symm vp1) (kT _ _ hpa7) (k7.wr nbd)⟩
        have iffT : b = true → (true = true ↔ ∃ y ∈ zs.take (j + 1), (c y (x / n)).1 ≠ (c' y (x % n)).1) := fun h => ⟨fun _ => by
          obtain ⟨y, hy, hd⟩ := hbb.mp h
          exact ⟨y, by rw [take_snoc ez]; exact List.mem_append_left _ hy, hd⟩, fun _ => rfl⟩
        have iffF : b = false → ((!decide (V.int (c z (x / n)).1 = V.int (c' z (x % n)).1)) = true ↔ ∃ y ∈ zs.take (j + 1), (c y (x / n)).1 ≠ (c' y (x % n)).1) := fun h => by
          rw [take_snoc ez]
          constructor
          · intro e
            refine ⟨z, List.mem_append_right _ List.mem_cons_self, fun q => ?_⟩
            rw [decide_eq_true (by rw [q])] at e
            cases e
          · rintro ⟨y, hy, hd⟩
            rcases List.mem_append.mp hy with hy | hy
            · have := hbb.mpr ⟨y, hy, hd⟩
              rw [h] at this; cases this
            · rw [List.mem_singleton.mp hy] at hd
              rw [decide_eq_false (fun q => hd (by injection q))]
              rfl
        cases b with
        | true =>
          rw [if_pos rfl]
          refine ⟨hdn5, t1, rfl, _, sq_t ht1, _, rfl, t2, rfl, _, sq_t ht2, _, rfl, by rw [sizeLine_eq]; decide, fun p np => ⟨Nat.zero_le _, fun p1 np1 => ?_⟩⟩
          obtain ⟨kvs, q1, q2, q3, q4, q5⟩ := core p p1 _ np rfl np1
          refine ⟨kvs, _, _, _, ⟨rfl, rfl⟩, q1, q2, q3, fun v' hv => ?_, fun hv ob hob => ?_⟩
          · obtain ⟨l, us, rfl, w1, w2, w3⟩ := q4 v' hv
            refine ⟨.inl ⟨rfl, _, sq_l w1⟩, l, rfl, us, w1, w2, ?_, w3⟩
            exact ⟨_, _, _, _, _, _, _, ⟨rfl, rfl, rfl, rfl, rfl, rfl, rfl⟩, iffT rfl⟩
          · obtain ⟨w1, w3⟩ := q5 hv ob hob
            refine ⟨.inl ⟨rfl, _, sq_l w1⟩, p1, rfl, [], w1, smallL (by decide), ?_, w3⟩
            exact ⟨_, _, _, _, _, _, _, ⟨rfl, rfl, rfl, rfl, rfl, rfl, rfl⟩, iffT rfl⟩
        | false =>
          rw [if_neg (by decide)]
          refine ⟨t1, rfl, _, sq_t ht1, _, rfl, t2, rfl, _, sq_t ht2, _, rfl, rfl, hdn5, t1, rfl, _, sq_t ht1, _, rfl, t2, rfl, _, sq_t ht2, _, rfl, by rw [sizeLine_eq]; decide, fun p np => ⟨Nat.zero_le _, fun p1 np1 => ?_⟩⟩
          obtain ⟨kvs, q1, q2, q3, q4, q5⟩ := core p p1 _ np rfl np1
          refine ⟨kvs, _, _, _, ⟨rfl, rfl⟩, q1, q2, q3, fun v' hv => ?_, fun hv ob hob => ?_⟩
          · obtain ⟨l, us, rfl, w1, w2, w3⟩ := q4 v' hv
            refine ⟨.inl ⟨rfl, _, sq_l w1⟩, l, rfl, us, w1, w2, ?_, w3⟩
            exact ⟨_, _, _, _, _, _, _, ⟨rfl, rfl, rfl, rfl, rfl, rfl, rfl⟩, iffF rfl⟩
          · obtain ⟨w1, w3⟩ := q5 hv ob hob
            refine ⟨.inl ⟨rfl, _, sq_l w1⟩, p1, rfl, [], w1, smallL (by decide), ?_, w3⟩
            exact ⟨_, _, _, _, _, _, _, ⟨rfl, rfl, rfl, rfl, rfl, rfl, rfl⟩, iffF rfl⟩
      · rintro σ H5 ⟨⟨c9, c10, c11, c12, c13, c14, b, rfl, hbb⟩, hL5⟩
        rw [List.length_map, List.take_length] at hL5 hbb
        rw [← edg_snoc, ← take_snoc ex] at hL5
        obtain ⟨ents, G, qs, hE, hG, hvl5, hqs, g1, g2, g3, g4, k5⟩ := hL5
        have xG : x ∉ G.map (·.1) := fun h => by
          obtain ⟨g, hg, e⟩ := List.mem_map.mp h
          exact nd_fresh ndF ex (e ▸ (g2 g hg).1)
        have memT : ∀ y, y ∈ F.take (i + 1) ↔ y ∈ F.take i ∨ y = x := fun y => by rw [take_snoc ex, List.mem_append, List.mem_singleton]
        try simp (maxSteps := 1000000) only [tSeq, tIfS, tTest, tOp, tUn, tCB, tCons, tNil, tVar, tC, rI0, rI, rU, rEq, rNe, tRet, tRetN, tAsg, gName, gSub, tBM, tBM0, tNext, tB, tNot, tAnd, tOr, tIf, tCall, tDrop, tBreak, tCont, L2.start, tDGet, sDPut, tTup, tLst, tDNewK, tRevL, rCat, rAppend, rPop, rSetL, tAndV, tOrV, tNotV, tSl, tPart, tNoPart, tM1, gTup, gCons, gNil, cxK, cxnK, List.map_cons, List.map_nil, List.length_cons, List.length_nil, List.replicate, List.cons_append, List.nil_append, List.append_nil, List.set_cons_zero, List.set_cons_succ, List.getElem?_cons_zero, List.getElem?_cons_succ, Option.some.injEq, V.ref.injEq, V.int.injEq, V.str.injEq, V.bl.injEq, V.ty.injEq, exists_eq_left', exists_eq_left, exists_and_left, List.cons.injEq, and_true, true_and, sc_ii, sc_ss, sc_bb, sc_ni, sc_in, sc_is, sc_si, sc_nn, decide_true, decide_false, reduceCtorEq, Bool.false_eq_true, if_true, if_false, ite_true, ite_false, exists_const, eq_self, false_and, and_false, or_false, false_or, exists_false, Evl.rLenS, rSum, wipe, tYes, exists_eq, exists_eq', rIxL, rIxT, rIxS, exists_and_right, gt_iff_lt, not_true_eq_false, not_false_eq_true, Bool.not_true, Bool.not_false, decide_eq_true_eq, Nat.reduceSub, Nat.reduceAdd, List.append_assoc, tChain, tDIn, tDNotIn, sDDel, tAug, ipI, tNNotIn, sNPut, tNDef, tNGet, tNGor]
        cases b with
        | false =>
          rw [if_neg (by decide)]
          refine ⟨ents, G, qs, hE, hG, hvl5, hqs, g1, fun g hg => ⟨(memT _).mpr (.inl (g2 g hg).1), (g2 g hg).2⟩, fun y hy hd => ?_, g4, k5⟩
          rcases (memT y).mp hy with hy | rfl
          · exact g3 y hy hd
          · obtain ⟨z, hz, hd⟩ := hd
            exact absurd (hbb.mpr ⟨z, hz, hd⟩) (by decide)
        | true =>
          rw [if_pos rfl]
          have hpa5 := k5 _ _ not0 hpa0
          have Gl : G.length ≤ 10000 := by
            have := nodup_lenP (l := G.map (·.1)) (m := F) g1 fun y hy => by
              obtain ⟨g, hg, rfl⟩ := List.mem_map.mp hy
              exact List.mem_of_mem_take (g2 g hg).1
            have h2 := nodup_lenP (l := F) (m := List.range (m * n)) ndF fun y hy => List.mem_range.mpr (hF y hy).1
            rw [List.length_map] at this
            rw [List.length_range] at h2
            omega
          have qsl : qs.length = G.length := by rw [hqs.1, List.length_map]
          refine ⟨_, hG, keyG n x, nk_pair hpa5, smallL (by rw [List.length_map]; omega), fun ob hob => ?_⟩
          have hvl6 : (upd H5 sd ob) vl = some (.lst qs) := by rw [upd_ne (dn_nl hG hvl5)]; exact hvl5
          have hpa6 : (upd H5 sd ob) pa = some (.tup [.int (x / n : Nat), .int (x % n : Nat)]) := by rw [upd_ne (dn_nt hG hpa5)]; exact hpa5
          have tt : ∀ b us, H5 b = some (.tup us) → (upd (upd H5 sd ob) vl (.lst (qs ++ [.ref pa]))) b = some (.tup us) := fun b us e => by
            rw [upd_ne (fun z => by rw [z, hvl5] at e; cases e), upd_ne (dn_nt hG e)]
            exact e
          have hE6 := hE.wd (ob := ob) hG bs
          have hob' : DnAt P w (upd H5 sd ob) sd ((G ++ [(x, 0)]).map fun g : Nat × Nat => (keyG n g.1, V.int ((g.2 : Nat) + 1))) := by
            rw [← lv_put xG]
            exact hob
          refine ⟨.inl ⟨rfl, _, sq_l hvl6⟩, qs, hvl6, smallL (by omega), ents, G ++ [(x, 0)], qs ++ [.ref pa], hE6.wl hvl6 g4, dn_wr hob' hvl6 (Ne.symm (dn_nl hob' hvl6)), upd_same, ?_, ?_, fun g hg => ?_, fun y hy hd => ?_, g4, (k5.wr nsd0).wr nvl0⟩
          · rw [List.map_append]
            exact (hqs.tp tt).snoc (tt _ _ hpa5)
          · rw [List.map_append, List.nodup_append]
            refine ⟨g1, by simp, fun a ha b hb e => ?_⟩
            have : b = x := by simpa using hb
            exact xG (by rw [← this, ← e]; exact ha)
          · rcases List.mem_append.mp hg with hg | hg
            · exact ⟨(memT _).mpr (.inl (g2 g hg).1), (g2 g hg).2⟩
            · rw [List.mem_singleton.mp hg]
              exact ⟨(memT _).mpr (.inr rfl), rfl, hbb.mp rfl⟩
          · rcases (memT y).mp hy with hy | rfl
            · exact List.mem_append_left _ (g3 y hy hd)
            · exact List.mem_append_right _ List.mem_cons_self
    · rintro σ H4 ⟨⟨c7, c8, c9, c10, c11, c12, c13, c14, rfl⟩, hL⟩
      rw [hps.1, List.take_length] at hL
      exact hq bd sd vl _ _ _ _ _ _ _ _ H4 hL nbd nsd0 nvl0 bs
end
end My

set_option Elab.async false
set_option linter.all false
set_option maxRecDepth 100000
set_option maxHeartbeats 4000000
namespace My
open PySem L2 NdefX StX
abbrev s_law_is_pair : Stmt := top 34
theorem sc_law_is_pair : FnScope ["_law_told", "_law_due"] ["_law_told", "_law_due"] (defScope s_law_is_pair) := ⟨rfl, rfl, rfl, by decide +kernel, rfl, by decide +kernel, by decide +kernel⟩
structure BtPr (mg : Str → Option Value) : Prop where
  b_len : mg "len" = none
  b_isinstance : mg "isinstance" = none
  b_tuple : mg "tuple" = none
section
variable {P : Program} {w : World} {K : PySem.W.Frag} {mg : Str → Option Value} {base : Heap}
def spIsP : Sp := fun vs H Q _ => ∃ (p r : Addr) (a b : Int), vs = [.ref p, .ref r] ∧ H p = some (.tup [.int a, .int b]) ∧ H r = some (.tup [.int a, .int b]) ∧ Q (.bl true) H
theorem ok_law_is_pair {f : Addr} {fd : FuncData} (D : Df K mg "_law_is_pair" s_law_is_pair ["_law_told", "_law_due"] f fd) (T : BtPr mg) {fw : Addr} {fdw : FuncData} (D_law_is_whole : Df K mg "_law_is_whole" s_law_is_whole ["_law_told", "_law_due"] fw fdw) (G_law_is_whole : FnOk P w K mg base CX0 1 fw fdw ["_law_told", "_law_due"] spWhole) : FnOk P w K mg base CX0 2 f fd ["_law_told", "_law_due"] spIsP := by
  refine D.F.ok sc_law_is_pair (fun vs H Q E h => ?_) (fun cdv A outer s H vs Q E hr h => ?_)
  · obtain ⟨p, r, a, b, rfl, _⟩ := h
    rfl
  · obtain ⟨p, r, a, b, rfl, hp, hr', q⟩ := h
    refine ⟨_, (pss_cons (ps_if (PW.pt (pw_or (pt_not (pt_val (pe_callB (id := "isinstance") (r := rIsi K) call_isi (by rfl) T.b_isinstance (by decide +kernel) (pa_cons (pv 0) (pa_cons (pe_bltn (v := .ty "tuple") (by rfl) T.b_tuple (by decide +kernel) rfl) pa_nil))))) (pw_or1 (pt_cmpR op_ne (pe_callB (id := "len") (r := Evl.rLenS K) call_len_seq (by rfl) T.b_len PySem.boot_len (pa_cons (pv 0) pa_nil)) pe_int (nomark _))))) (pss_one (ps_ret pe_bl)) pss_nil)
      (pss_one (ps_ret (pe_and (pe_call G_law_is_whole (hr.mono (by decide)) rfl D_law_is_whole.g D_law_is_whole.F.kp D_law_is_whole.b .nil pass0 (pa_cons (pe_ix (r := rIxT K) ix_tup (pv 0) pe_int (fun _ _ => rfl)) (pa_cons (pe_ix (r := rIxT K) ix_tup (pv 1) pe_int (fun _ _ => rfl)) pa_nil))) (pe_one (pe_call G_law_is_whole (hr.mono (by decide)) rfl D_law_is_whole.g D_law_is_whole.F.kp D_law_is_whole.b .nil pass0 (pa_cons (pe_ix (r := rIxT K) ix_tup (pv 0) pe_int (fun _ _ => rfl)) (pa_cons (pe_ix (r := rIxT K) ix_tup (pv 1) pe_int (fun _ _ => rfl)) pa_nil)))))))), ?_⟩
    try simp (maxSteps := 1000000) only [tSeq, tIfS, tTest, tOp, tUn, tCB, tCons, tNil, tVar, tC, rI0, rI, rU, rEq, rNe, tRet, tRetN, tAsg, gName, gSub, tBM, tBM0, tNext, tB, tNot, tAnd, tOr, tIf, tCall, tDrop, tBreak, tCont, L2.start, tDGet, sDPut, tTup, tLst, tDNewK, tRevL, rCat, rAppend, rPop, rSetL, tAndV, tOrV, tNotV, tSl, tPart, tNoPart, tM1, gTup, gCons, gNil, cxK, cxnK, List.map_cons, List.map_nil, List.length_cons, List.length_nil, List.replicate, List.cons_append, List.nil_append, List.append_nil, List.set_cons_zero, List.set_cons_succ, List.getElem?_cons_zero, List.getElem?_cons_succ, Option.some.injEq, V.ref.injEq, V.int.injEq, V.str.injEq, V.bl.injEq, V.ty.injEq, exists_eq_left', exists_eq_left, exists_and_left, List.cons.injEq, and_true, true_and, sc_ii, sc_ss, sc_bb, sc_ni, sc_in, sc_is, sc_si, sc_nn, decide_true, decide_false, reduceCtorEq, Bool.false_eq_true, if_true, if_false, ite_true, ite_false, exists_const, eq_self, false_and, and_false, or_false, false_or, exists_false, Evl.rLenS, rSum, wipe, tYes, exists_eq, exists_eq', rIxL, rIxT, rIxS, exists_and_right, gt_iff_lt, not_true_eq_false, not_false_eq_true, Bool.not_true, Bool.not_false, decide_eq_true_eq, Nat.reduceSub, Nat.reduceAdd, List.append_assoc, tChain, tDIn, tDNotIn, sDDel, tAug, ipI]
    refine isi_mk (b := true) (.tup hp) (by decide +kernel) ?_
    try simp (maxSteps := 1000000) only [tSeq, tIfS, tTest, tOp, tUn, tCB, tCons, tNil, tVar, tC, rI0, rI, rU, rEq, rNe, tRet, tRetN, tAsg, gName, gSub, tBM, tBM0, tNext, tB, tNot, tAnd, tOr, tIf, tCall, tDrop, tBreak, tCont, L2.start, tDGet, sDPut, tTup, tLst, tDNewK, tRevL, rCat, rAppend, rPop, rSetL, tAndV, tOrV, tNotV, tSl, tPart, tNoPart, tM1, gTup, gCons, gNil, cxK, cxnK, List.map_cons, List.map_nil, List.length_cons, List.length_nil, List.replicate, List.cons_append, List.nil_append, List.append_nil, List.set_cons_zero, List.set_cons_succ, List.getElem?_cons_zero, List.getElem?_cons_succ, Option.some.injEq, V.ref.injEq, V.int.injEq, V.str.injEq, V.bl.injEq, V.ty.injEq, exists_eq_left', exists_eq_left, exists_and_left, List.cons.injEq, and_true, true_and, sc_ii, sc_ss, sc_bb, sc_ni, sc_in, sc_is, sc_si, sc_nn, decide_true, decide_false, reduceCtorEq, Bool.false_eq_true, if_true, if_false, ite_true, ite_false, exists_const, eq_self, false_and, and_false, or_false, false_or, exists_false, Evl.rLenS, rSum, wipe, tYes, exists_eq, exists_eq', rIxL, rIxT, rIxS, exists_and_right, gt_iff_lt, not_true_eq_false, not_false_eq_true, Bool.not_true, Bool.not_false, decide_eq_true_eq, Nat.reduceSub, Nat.reduceAdd, List.append_assoc, tChain, tDIn, tDNotIn, sDDel, tAug, ipI]
    refine ⟨_, .inr (sq_t hp), ?_⟩
    rw [if_neg (by simp)]
    refine ⟨_, sq_t hp, _, rfl, _, sq_t hr', _, rfl, a, a, rfl, _, rfl, ?_⟩
    rw [if_pos (decide_eq_true rfl)]
    exact ⟨_, sq_t hp, _, rfl, _, sq_t hr', _, rfl, b, b, rfl, by rw [decide_eq_true rfl]; exact q⟩
end
end My

set_option Elab.async false
set_option linter.all false
set_option maxRecDepth 100000
set_option maxHeartbeats 4000000
namespace My
open PySem L2 NdefX StX
abbrev s_law_judged : Stmt := top 40
theorem sc_law_judged : FnScope ["_law_a", "_law_b", "_law_rows_here", "_law_last", "_law_start", "_law_names_here", "_law_pairs_here", "_law_left_here", "_law_told", "_law_row", "_law_due", "_law_k"] ["_law_a", "_law_b", "_law_rows_here", "_law_last", "_law_start", "_law_names_here"] (defScope s_law_judged) := ⟨rfl, rfl, rfl, by decide +kernel, rfl, by decide +kernel, by decide +kernel⟩
structure BtJ (mg : Str → Option Value) : Prop where
  b_len : mg "len" = none
  b_range : mg "range" = none
  b_isinstance : mg "isinstance" = none
  b_bool : mg "bool" = none
  b_list : mg "list" = none
  b_sorted : mg "sorted" = none
theorem TabIs.all {TC : Addr} {H : Hp} {o : Addr} {zs : List Str} {m f0 : Nat} {c : Str → Nat → Int × Int} (h : TabIs TC H o zs m (f0 : Nat) c) : zs.Nodup ∧ zs.length ≤ 6 ∧ (∀ z ∈ zs, nameS z = true) ∧ CellB zs m 10 c ∧ m ≤ 100 ∧ f0 < m := by
  obtain ⟨rs, hT, ez, hc⟩ := h
  obtain ⟨_, b2, b3, _, b5, _, b7, b8⟩ := hT.bnd
  refine ⟨ez ▸ b8, ?_, ez ▸ b3, fun z hz s hs => ?_, b5, by omega⟩
  · rw [← ez]
    unfold namesOf
    rw [List.length_map]
    exact b2
  · have := hT.cells z (by rw [ez]; exact hz) s hs
    rw [hc z hz s hs] at this
    exact ⟨⟨this.1, this.2.1⟩, this.2.2⟩
/-- nothing parts them: they are alike -/
theorem no_alike {zs : List Str} {c c' : Str → Nat → Int × Int} {m n f0 g0 : Nat} (hN : Nx zs m c) (hN' : Nx zs n c') (fm : f0 < m) (gn : g0 < n) (h : ∀ k, ¬ WdP zs c c' n (f0 * n + g0) k) : Alike zs c c' m n f0 g0 := by
  refine ⟨fun s t => s < m ∧ t < n ∧ ∀ k, ¬ WdP zs c c' n (s * n + t) k, ⟨fm, gn, h⟩, fun s t ⟨hs, ht, hw⟩ => ⟨hs, ht, fun z hz => ⟨?_, hN z hz s hs, hN' z hz t ht, fun k hk => ?_⟩⟩⟩
  · by_cases w : (c z s).1 = (c' z t).1
    · exact w
    · refine absurd (WdP.zero.mpr ⟨z, hz, ?_⟩) (hw 0)
      rw [pair_div ht, pair_mod ht]
      exact w
  · refine hw (k + 1) (WdP.succ.mpr ⟨z, hz, ?_⟩)
    rw [pair_nx, pair_div ht, pair_mod ht]
    exact hk
section
variable {P : Program} {w : World} {K : PySem.W.Frag} {mg : Str → Option Value} {base : Heap}
def spJudged (TC : Addr) : Sp := fun vs H Q _ => ∃ (oa ob rd ld st nl : Addr) (m n f0 g0 : Nat) (zs zs' : List Str) (c c' : Str → Nat → Int × Int), vs = [.ref oa, .ref ob, .ref rd, .ref ld, .ref st, .ref nl] ∧ TabIs TC H oa zs m (f0 : Nat) c ∧ TabIs TC H ob zs' n (g0 : Nat) c' ∧ zs'.Perm zs ∧ RwS H rd zs m c ∧ RwS H ld zs n c' ∧ H st = some (.tup [.int (f0 : Nat), .int (g0 : Nat)]) ∧ H nl = some (.lst (zs.map V.str)) ∧ ∀ H', Kp [] H H' → Q (.bl true) H'
theorem ok_law_judged {f : Addr} {fd : FuncData} (D : Df K mg "_law_judged" s_law_judged ["_law_a", "_law_b", "_law_rows_here", "_law_last", "_law_start", "_law_names_here"] f fd) {TC ON : Addr} (T : BtJ mg) {f1 : Addr} {fd1 : FuncData} (D_alike : Df K mg "alike" s_alike ["a", "b"] f1 fd1) (G_alike : FnOk P w K mg base (L2.CX P w) 8 f1 fd1 ["a", "b"] (spAlike TC ON))
    {f2 : Addr} {fd2 : FuncData} (D_parting : Df K mg "parting" s_parting ["a", "b"] f2 fd2) (G_parting : FnOk P w K mg base (L2.CX P w) 7 f2 fd2 ["a", "b"] (spPart TC ON)) {f3 : Addr} {fd3 : FuncData} (D_likeness : Df K mg "likeness" s_likeness ["a", "b"] f3 fd3) (G_likeness : FnOk P w K mg base (L2.CX P w) 7 f3 fd3 ["a", "b"] (spLike TC ON))
    {f4 : Addr} {fd4 : FuncData} (D_law_pairs : Df K mg "_law_pairs" s_law_pairs ["_law_rows_here", "_law_last", "_law_names_here", "_law_start"] f4 fd4) (G_law_pairs : FnOk P w K mg base CX0 1 f4 fd4 ["_law_rows_here", "_law_last", "_law_names_here", "_law_start"] spPairs) {f5 : Addr} {fd5 : FuncData} (D_law_left : Df K mg "_law_left" s_law_left ["_law_rows_here", "_law_last", "_law_names_here", "_law_pairs_here"] f5 fd5) (G_law_left : FnOk P w K mg base CX0 1 f5 fd5 ["_law_rows_here", "_law_last", "_law_names_here", "_law_pairs_here"] (spLeft P w)) {f6 : Addr} {fd6 : FuncData} (D_law_first_row : Df K mg "_law_first_row" s_law_first_row ["_law_row", "_law_rows_here", "_law_last", "_law_names_here", "_law_left_here", "_law_start"] f6 fd6) (G_law_first_row : FnOk P w K mg base CX0 1 f6 fd6 ["_law_row", "_law_rows_here", "_law_last", "_law_names_here", "_law_left_here", "_law_start"] (spFst P w)) {f7 : Addr} {fd7 : FuncData} (D_law_is_pair : Df K mg "_law_is_pair" s_law_is_pair ["_law_told", "_law_due"] f7 fd7) (G_law_is_pair : FnOk P w K mg base CX0 2 f7 fd7 ["_law_told", "_law_due"] spIsP) : FnOk P w K mg base CX0 9 f fd ["_law_a", "_law_b", "_law_rows_here", "_law_last", "_law_start", "_law_names_here"] (spJudged TC) := by
  refine D.F.ok sc_law_judged (fun vs H Q E h => ?_) (fun cdv A outer s H vs Q E hr h => ?_)
  · obtain ⟨_, _, _, _, _, _, _, _, _, _, _, _, _, _, rfl, _⟩ := h
    rfl
  · obtain ⟨oa, ob, rd, ld, st, nl, m, n, f0, g0, zs, zs', c, c', rfl, hA, hB, pm, hrw, hlw, hst, hn, q⟩ := h
    have hu := hu_of hr
    obtain ⟨nd, z6, nm, hb, m100, fm⟩ := hA.all
    obtain ⟨_, _, _, hb0, n100, gn⟩ := hB.all
    have hb' : CellB zs n 10 c' := fun z hz => hb0 z (pm.mem_iff.mpr hz)
    have hN := hb.toNx
    have hN' := hb'.toNx
    have hNN := pair_Nx hN hN'
    have xm := pair_lt (n := n) fm gn
    have mn : m * n ≤ 10000 := Nat.mul_le_mul m100 n100
    have FO := fndC_ok hNN xm (m * n)
    have Fcl := fndC_full hNN xm
    have Fin : f0 * n + g0 ∈ fndC zs (pairC c c' n) (f0 * n + g0) (m * n) := List.mem_of_getElem? (fndC_head (m * n))
    obtain ⟨t, ht, hq⟩ : ∃ t, PSs (cxOf CX0 P w K mg base ["_law_a", "_law_b", "_law_rows_here", "_law_last", "_law_start", "_law_names_here", "_law_pairs_here", "_law_left_here", "_law_told", "_law_row", "_law_due", "_law_k"] "_law_judged" (defScope s_law_judged) f cdv A outer s H E).nox ((defBody s_law_judged).drop 7) t ∧ ∀ (pl sd : Addr) (c8 c9 c10 c11 : Option V) (ps : List V) (kvs : List (NestedKey × V)) H1, H1 pl = some (.lst ps) → PrsG H1 n ps (fndC zs (pairC c c' n) (f0 * n + g0) (m * n)) → DnAt P w H1 sd kvs → ((Alike zs c c' m n f0 g0 ∧ valN kvs (keyG n (f0 * n + g0)) = none) ∨ (¬ Alike zs c c' m n f0 g0 ∧ (valN kvs (keyG n (f0 * n + g0))).isSome = true)) → Kp [] H H1 → t { nx := fun _ H' => Q .non H', rt := Q } [some (.ref oa), some (.ref ob), some (.ref rd), some (.ref ld), some (.ref st), some (.ref nl), some (.ref pl), some (.ref sd), c8, c9, c10, c11] H1 := by
      refine ⟨_, (pss_cons (ps_set (i := 8) sc_law_judged.nd rfl (Or.inl rfl) (pe_call G_likeness (hr.mono (by decide)) rfl D_likeness.g D_likeness.F.kp D_likeness.b .nil passL (pa_cons (pv 0) (pa_cons (pv 1) pa_nil))))
      (pss_cons (ps_if (pt_cmp (pc_nin hr.units (pv 4) (pv 7))) (pss_one (ps_ret (pe_cmpR op_isN (pv 8) pe_non (nomark _)))) pss_nil)
      (pss_cons (ps_set (i := 10) sc_law_judged.nd rfl (Or.inl rfl) (pe_callB (id := "sorted") cr_sortedPO (by rfl) T.b_sorted (by decide +kernel) (pa_cons (pv 6) pa_nil)))
      (pss_cons (ps_if (PW.pt (pw_or (pt_not (pt_val (pe_callB (id := "isinstance") (r := rIsi K) call_isi (by rfl) T.b_isinstance (by decide +kernel) (pa_cons (pv 8) (pa_cons (pe_bltn (v := .ty "list") (by rfl) T.b_list (by decide +kernel) rfl) pa_nil))))) (pw_or1 (pt_cmpR op_ne (pe_callB (id := "len") (r := Evl.rLenS K) call_len_seq (by rfl) T.b_len PySem.boot_len (pa_cons (pv 8) pa_nil)) (pe_callB (id := "len") (r := Evl.rLenS K) call_len_seq (by rfl) T.b_len PySem.boot_len (pa_cons (pv 10) pa_nil)) (nomark _))))) (pss_one (ps_ret pe_bl)) pss_nil)
      (pss_cons (ps_for PassesOwn.never rfl (pi_range1 rfl T.b_range (pa_cons (pe_callB (id := "len") (r := Evl.rLenS K) call_len_seq (by rfl) T.b_len PySem.boot_len (pa_cons (pv 10) pa_nil)) pa_nil)) (pg_name (i := 11) sc_law_judged.nd rfl (Or.inl rfl)) (pss_one (ps_if (pt_not (pt_val (pe_call G_law_is_pair (hr.mono (by decide)) rfl D_law_is_pair.g D_law_is_pair.F.kp D_law_is_pair.b .nil pass0 (pa_cons (pe_ix (r := rIxL K) ix_list (pv 8) (pv 11) (fun _ _ => rfl)) (pa_cons (pe_ix (r := rIxL K) ix_list (pv 10) (pv 11) (fun _ _ => rfl)) pa_nil))))) (pss_one (ps_ret pe_bl)) pss_nil)))
      (pss_cons (ps_expr (pe_bm PySem.F.plainAttrs_list PySem.F.slot_list_append PySem.F.type_list_append mt_append (pv 8) (pa_cons (pe_tup (pa_cons pe_int (pa_cons pe_int pa_nil))) pa_nil)))
      (pss_one (ps_ret pe_bl)))))))), ?_⟩
      intro pl sd c8 c9 c10 c11 ps kvs H1 hpl hps hsd hcase k1
      try simp (maxSteps := 1000000) only [tSeq, tIfS, tTest, tOp, tUn, tCB, tCons, tNil, tVar, tC, rI0, rI, rU, rEq, rNe, tRet, tRetN, tAsg, gName, gSub, tBM, tBM0, tNext, tB, tNot, tAnd, tOr, tIf, tCall, tDrop, tBreak, tCont, L2.start, tDGet, sDPut, tTup, tLst, tDNewK, tRevL, rCat, rAppend, rPop, rSetL, tAndV, tOrV, tNotV, tSl, tPart, tNoPart, tM1, gTup, gCons, gNil, cxK, cxnK, List.map_cons, List.map_nil, List.length_cons, List.length_nil, List.replicate, List.cons_append, List.nil_append, List.append_nil, List.set_cons_zero, List.set_cons_succ, List.getElem?_cons_zero, List.getElem?_cons_succ, Option.some.injEq, V.ref.injEq, V.int.injEq, V.str.injEq, V.bl.injEq, V.ty.injEq, exists_eq_left', exists_eq_left, exists_and_left, List.cons.injEq, and_true, true_and, sc_ii, sc_ss, sc_bb, sc_ni, sc_in, sc_is, sc_si, sc_nn, decide_true, decide_false, reduceCtorEq, Bool.false_eq_true, if_true, if_false, ite_true, ite_false, exists_const, eq_self, false_and, and_false, or_false, false_or, exists_false, Evl.rLenS, rSum, wipe, tYes, exists_eq, exists_eq', rIxL, rIxT, rIxS, exists_and_right, gt_iff_lt, not_true_eq_false, not_false_eq_true, Bool.not_true, Bool.not_false, decide_eq_true_eq, Nat.reduceSub, Nat.reduceAdd, List.append_assoc, tChain, tDIn, tDNotIn, sDDel, tAug, ipI, tNIn, tNNotIn]
      refine ⟨oa, ob, m, n, f0, g0, zs, zs', c, c', rfl, hA.kp k1, hB.kp k1, fun hp hA2 l qs G H2 nl2 hl hqs hG k2 => ?_, fun hp hA2 H2 k2 => ?_, fun hp => absurd pm hp⟩
      · dsimp only
        have hst2 := (k1.trans k2) _ _ not0 hst
        have hst3 : H2 st = some (.tup [.int ((f0 * n + g0) / n : Nat), .int ((f0 * n + g0) % n : Nat)]) := by rw [pair_div gn, pair_mod gn]; exact hst2
        refine ⟨_, dn_kp hsd k2, _, nk_pair hst3, ?_⟩
        have vn : valN kvs (keyG n (f0 * n + g0)) = none := by
          rcases hcase with ⟨_, e⟩ | ⟨na, _⟩
          · exact e
          · exact absurd hA2 na
        rw [vn, if_neg (by decide)]
        have hpl2 := k2 _ _ not0 hpl
        refine sortG hpl2 (hps.kp k2) (by omega) fun p ys G' np pG' sG' hys => ?_
        have k3 := (Kp.new np : Kp [] H2 (upd H2 p (.lst ys)))
        have hl3 := k3 _ _ not0 hl
        have hp3 : (upd H2 p (.lst ys)) p = some (.lst ys) := upd_same
        have hqs3 := hqs.kp k3
        have eG := sort_one hG.1 pG' hG.2 sG'
        subst eG
        have Gl : G.length ≤ 10000 := by
          have h2 := nodup_lenP (l := G) (m := List.range (m * n)) (hG.1.nodup_iff.mpr FO.1) fun y hy => List.mem_range.mpr (FO.2 y (hG.1.mem_iff.mp hy))
          rw [List.length_range] at h2
          omega
        have lp : l ≠ p := fun z => by rw [z, np] at hl; cases hl
        have nl0 : H l = none := noneB k1 nl2
        have k03 := (k1.trans k2).trans k3
        generalize upd H2 p (.lst ys) = H3 at *
        refine isi_mk (b := true) (.lst hl3) (by decide +kernel) ⟨true, rfl, ?_⟩
        rw [if_neg (by decide)]
        refine ⟨l, rfl, qs, .inl (sq_l hl3), p, rfl, ys, .inl (sq_l hp3), ?_⟩
        rw [hqs3.1, hys.1, if_neg (by simp)]
        refine forRg G.length (fun j σ H' => (∃ c11 : Option V, σ = [some (.ref oa), some (.ref ob), some (.ref rd), some (.ref ld), some (.ref st), some (.ref nl), some (.ref pl), some (.ref sd), some (.ref l), c9, some (.ref p), c11]) ∧ Kp [] H3 H') (fun R q' => ?_) (by omega) (by omega) ⟨⟨_, rfl⟩, Kp.refl _ _⟩ ?_ ?_
        · try simp (maxSteps := 1000000) only [tSeq, tIfS, tTest, tOp, tUn, tCB, tCons, tNil, tVar, tC, rI0, rI, rU, rEq, rNe, tRet, tRetN, tAsg, gName, gSub, tBM, tBM0, tNext, tB, tNot, tAnd, tOr, tIf, tCall, tDrop, tBreak, tCont, L2.start, tDGet, sDPut, tTup, tLst, tDNewK, tRevL, rCat, rAppend, rPop, rSetL, tAndV, tOrV, tNotV, tSl, tPart, tNoPart, tM1, gTup, gCons, gNil, cxK, cxnK, List.map_cons, List.map_nil, List.length_cons, List.length_nil, List.replicate, List.cons_append, List.nil_append, List.append_nil, List.set_cons_zero, List.set_cons_succ, List.getElem?_cons_zero, List.getElem?_cons_succ, Option.some.injEq, V.ref.injEq, V.int.injEq, V.str.injEq, V.bl.injEq, V.ty.injEq, exists_eq_left', exists_eq_left, exists_and_left, List.cons.injEq, and_true, true_and, sc_ii, sc_ss, sc_bb, sc_ni, sc_in, sc_is, sc_si, sc_nn, decide_true, decide_false, reduceCtorEq, Bool.false_eq_true, if_true, if_false, ite_true, ite_false, exists_const, eq_self, false_and, and_false, or_false, false_or, exists_false, Evl.rLenS, rSum, wipe, tYes, exists_eq, exists_eq', rIxL, rIxT, rIxS, exists_and_right, gt_iff_lt, not_true_eq_false, not_false_eq_true, Bool.not_true, Bool.not_false, decide_eq_true_eq, Nat.reduceSub, Nat.reduceAdd, List.append_assoc, tChain, tDIn, tDNotIn, sDDel, tAug, ipI]
          refine ⟨_, .inl (sq_l hp3), ?_⟩
          rw [hys.1]
          exact q'
        · rintro j σ H4 hj ⟨⟨c11, rfl⟩, k4⟩
          have eg := List.getElem?_eq_getElem hj
          generalize G[j] = x at eg
          obtain ⟨a1, e1, h1⟩ := hqs3.2 j x eg
          obtain ⟨a2, e2, h2⟩ := hys.2 j x eg
          try simp (maxSteps := 1000000) only [tSeq, tIfS, tTest, tOp, tUn, tCB, tCons, tNil, tVar, tC, rI0, rI, rU, rEq, rNe, tRet, tRetN, tAsg, gName, gSub, tBM, tBM0, tNext, tB, tNot, tAnd, tOr, tIf, tCall, tDrop, tBreak, tCont, L2.start, tDGet, sDPut, tTup, tLst, tDNewK, tRevL, rCat, rAppend, rPop, rSetL, tAndV, tOrV, tNotV, tSl, tPart, tNoPart, tM1, gTup, gCons, gNil, cxK, cxnK, List.map_cons, List.map_nil, List.length_cons, List.length_nil, List.replicate, List.cons_append, List.nil_append, List.append_nil, List.set_cons_zero, List.set_cons_succ, List.getElem?_cons_zero, List.getElem?_cons_succ, Option.some.injEq, V.ref.injEq, V.int.injEq, V.str.injEq, V.bl.injEq, V.ty.injEq, exists_eq_left', exists_eq_left, exists_and_left, List.cons.injEq, and_true, true_and, sc_ii, sc_ss, sc_bb, sc_ni, sc_in, sc_is, sc_si, sc_nn, decide_true, decide_false, reduceCtorEq, Bool.false_eq_true, if_true, if_false, ite_true, ite_false, exists_const, eq_self, false_and, and_false, or_false, false_or, exists_false, Evl.rLenS, rSum, wipe, tYes, exists_eq, exists_eq', rIxL, rIxT, rIxS, exists_and_right, gt_iff_lt, not_true_eq_false, not_false_eq_true, Bool.not_true, Bool.not_false, decide_eq_true_eq, Nat.reduceSub, Nat.reduceAdd, List.append_assoc, tChain, tDIn, tDNotIn, sDDel, tAug, ipI]
          refine ⟨_, sq_l (k4 _ _ not0 hl3), _, atI_nat e1, _, sq_l (k4 _ _ not0 hp3), _, atI_nat e2, a1, a2, _, _, rfl, k4 _ _ not0 h1, k4 _ _ not0 h2, true, rfl, ?_⟩
          rw [if_neg (by decide)]
          exact k4
        · rintro σ H4 ⟨⟨c11, rfl⟩, k4⟩
          try simp (maxSteps := 1000000) only [tSeq, tIfS, tTest, tOp, tUn, tCB, tCons, tNil, tVar, tC, rI0, rI, rU, rEq, rNe, tRet, tRetN, tAsg, gName, gSub, tBM, tBM0, tNext, tB, tNot, tAnd, tOr, tIf, tCall, tDrop, tBreak, tCont, L2.start, tDGet, sDPut, tTup, tLst, tDNewK, tRevL, rCat, rAppend, rPop, rSetL, tAndV, tOrV, tNotV, tSl, tPart, tNoPart, tM1, gTup, gCons, gNil, cxK, cxnK, List.map_cons, List.map_nil, List.length_cons, List.length_nil, List.replicate, List.cons_append, List.nil_append, List.append_nil, List.set_cons_zero, List.set_cons_succ, List.getElem?_cons_zero, List.getElem?_cons_succ, Option.some.injEq, V.ref.injEq, V.int.injEq, V.str.injEq, V.bl.injEq, V.ty.injEq, exists_eq_left', exists_eq_left, exists_and_left, List.cons.injEq, and_true, true_and, sc_ii, sc_ss, sc_bb, sc_ni, sc_in, sc_is, sc_si, sc_nn, decide_true, decide_false, reduceCtorEq, Bool.false_eq_true, if_true, if_false, ite_true, ite_false, exists_const, eq_self, false_and, and_false, or_false, false_or, exists_false, Evl.rLenS, rSum, wipe, tYes, exists_eq, exists_eq', rIxL, rIxT, rIxS, exists_and_right, gt_iff_lt, not_true_eq_false, not_false_eq_true, Bool.not_true, Bool.not_false, decide_eq_true_eq, Nat.reduceSub, Nat.reduceAdd, List.append_assoc, tChain, tDIn, tDNotIn, sDDel, tAug, ipI]
          have hl4 := k4 _ _ not0 hl3
          refine ⟨.inl ⟨rfl, _, sq_l hl4⟩, by rw [sizeLine_eq]; decide, fun tp ntp => ?_⟩
          have kt := (Kp.new ntp : Kp [] H4 (upd H4 tp (.tup [.int 0, .int 0])))
          refine ⟨qs, kt _ _ not0 hl4, smallL (by rw [hqs3.1]; omega), q _ (((k03.trans k4).trans kt).wr nl0)⟩
      · dsimp only
        have hst2 := (k1.trans k2) _ _ not0 hst
        have hst3 : H2 st = some (.tup [.int ((f0 * n + g0) / n : Nat), .int ((f0 * n + g0) % n : Nat)]) := by rw [pair_div gn, pair_mod gn]; exact hst2
        refine ⟨_, dn_kp hsd k2, _, nk_pair hst3, ?_⟩
        have vn : (valN kvs (keyG n (f0 * n + g0))).isSome = true := by
          rcases hcase with ⟨na, _⟩ | ⟨_, e⟩
          · exact absurd na hA2
          · exact e
        rw [vn, if_pos rfl]
        exact q _ (k1.trans k2)
    refine ⟨_, (pss_cons (ps_set (i := 6) sc_law_judged.nd rfl (Or.inl rfl) (pe_call G_law_pairs (hr.mono (by decide)) rfl D_law_pairs.g D_law_pairs.F.kp D_law_pairs.b .nil pass0 (pa_cons (pv 2) (pa_cons (pv 3) (pa_cons (pv 5) (pa_cons (pv 4) pa_nil))))))
      (pss_cons (ps_set (i := 7) sc_law_judged.nd rfl (Or.inl rfl) (pe_call G_law_left (hr.mono (by decide)) rfl D_law_left.g D_law_left.F.kp D_law_left.b .nil pass0 (pa_cons (pv 2) (pa_cons (pv 3) (pa_cons (pv 5) (pa_cons (pv 6) pa_nil))))))
      (pss_cons (ps_set (i := 8) sc_law_judged.nd rfl (Or.inl rfl) (pe_call G_alike (hr.mono (by decide)) rfl D_alike.g D_alike.F.kp D_alike.b .nil passL (pa_cons (pv 0) (pa_cons (pv 1) pa_nil))))
      (pss_cons (ps_if (PW.pt (pw_or (pt_not (pt_val (pe_callB (id := "isinstance") (r := rIsi K) call_isi (by rfl) T.b_isinstance (by decide +kernel) (pa_cons (pv 8) (pa_cons (pe_bltn (v := .ty "bool") (by rfl) T.b_bool (by decide +kernel) rfl) pa_nil))))) (pw_or1 (pt_cmpR op_ne (pv 8) (pe_cmp (pc_nnotin hr.units (pv 4) (pv 7)) rfl) (nomark _))))) (pss_one (ps_ret pe_bl)) pss_nil)
      (pss_cons (ps_set (i := 9) sc_law_judged.nd rfl (Or.inl rfl) (pe_call G_parting (hr.mono (by decide)) rfl D_parting.g D_parting.F.kp D_parting.b .nil passL (pa_cons (pv 0) (pa_cons (pv 1) pa_nil))))
      (pss_cons (ps_if (pt_not (pt_val (pe_call G_law_first_row (hr.mono (by decide)) rfl D_law_first_row.g D_law_first_row.F.kp D_law_first_row.b .nil pass0 (pa_cons (pv 9) (pa_cons (pv 2) (pa_cons (pv 3) (pa_cons (pv 5) (pa_cons (pv 7) (pa_cons (pv 4) pa_nil))))))))) (pss_one (ps_ret pe_bl)) pss_nil)
      (pss_cons (ps_if (pt_cmpR op_notN (pv 9) pe_non (nomark _)) (pss_one (ps_expr (pe_bm PySem.F.plainAttrs_list PySem.F.slot_list_append PySem.F.type_list_append mt_append (pv 9) (pa_cons pe_str pa_nil)))) pss_nil)
      ht))))))), ?_⟩
    try simp (maxSteps := 1000000) only [tSeq, tIfS, tTest, tOp, tUn, tCB, tCons, tNil, tVar, tC, rI0, rI, rU, rEq, rNe, tRet, tRetN, tAsg, gName, gSub, tBM, tBM0, tNext, tB, tNot, tAnd, tOr, tIf, tCall, tDrop, tBreak, tCont, L2.start, tDGet, sDPut, tTup, tLst, tDNewK, tRevL, rCat, rAppend, rPop, rSetL, tAndV, tOrV, tNotV, tSl, tPart, tNoPart, tM1, gTup, gCons, gNil, cxK, cxnK, List.map_cons, List.map_nil, List.length_cons, List.length_nil, List.replicate, List.cons_append, List.nil_append, List.append_nil, List.set_cons_zero, List.set_cons_succ, List.getElem?_cons_zero, List.getElem?_cons_succ, Option.some.injEq, V.ref.injEq, V.int.injEq, V.str.injEq, V.bl.injEq, V.ty.injEq, exists_eq_left', exists_eq_left, exists_and_left, List.cons.injEq, and_true, true_and, sc_ii, sc_ss, sc_bb, sc_ni, sc_in, sc_is, sc_si, sc_nn, decide_true, decide_false, reduceCtorEq, Bool.false_eq_true, if_true, if_false, ite_true, ite_false, exists_const, eq_self, false_and, and_false, or_false, false_or, exists_false, Evl.rLenS, rSum, wipe, tYes, exists_eq, exists_eq', rIxL, rIxT, rIxS, exists_and_right, gt_iff_lt, not_true_eq_false, not_false_eq_true, Bool.not_true, Bool.not_false, decide_eq_true_eq, Nat.reduceSub, Nat.reduceAdd, List.append_assoc, tChain, tDIn, tDNotIn, sDDel, tAug, ipI, tNIn, tNNotIn]
    refine ⟨rd, ld, nl, st, m, n, f0, g0, zs, c, c', rfl, hrw, hlw, hn, nd, hst, hN, fun z hz s hs => (hb z hz s hs).2.1, hN', fun z hz s hs => (hb' z hz s hs).2.1, fm, gn, mn, fun pl ps H1 npl hpl hps k1 => ?_⟩
    dsimp only
    refine ⟨rd, ld, nl, pl, m, n, zs, c, c', ps, _, rfl, hrw.kp k1, hlw.kp k1, k1 _ _ not0 hn, nd, z6, hb, hb', mn, hpl, hps, FO.1, fun x hx => ⟨FO.2 x hx, Fcl x hx⟩, fun sd G H2 nsd hsd Gnd Gok Gall k2 => ?_⟩
    have LO : LeftOk zs c c' n (fun x => x ∈ fndC zs (pairC c c' n) (f0 * n + g0) (m * n)) (G.map fun g => (keyG n g.1, V.int ((g.2 : Nat) + 1))) := fun x hx => ⟨fun k hk => lv_val Gnd (Gall x hx k hk), fun hk => lv_none fun hm => by
      obtain ⟨g, hg, rfl⟩ := List.mem_map.mp hm
      exact hk _ (Gok g hg).1⟩
    have k02 := k1.trans k2
    have hsd : DnAt P w H2 sd (G.map fun g => (keyG n g.1, V.int ((g.2 : Nat) + 1))) := hsd
    generalize G.map (fun g => (keyG n g.1, V.int ((g.2 : Nat) + 1))) = kvs at LO hsd
    dsimp only
    refine ⟨oa, ob, m, n, f0, g0, zs, zs', c, c', rfl, hA.kp k02, hB.kp k02, fun _ b H3 hbA k3 => ?_, fun hp => absurd pm hp⟩
    have k03 := k02.trans k3
    have hst3 : H3 st = some (.tup [.int ((f0 * n + g0) / n : Nat), .int ((f0 * n + g0) % n : Nat)]) := by rw [pair_div gn, pair_mod gn]; exact k03 _ _ not0 hst
    have hcase : (Alike zs c c' m n f0 g0 ∧ (∀ k, ¬ WdP zs c c' n (f0 * n + g0) k) ∧ valN kvs (keyG n (f0 * n + g0)) = none) ∨ (¬ Alike zs c c' m n f0 g0 ∧ (valN kvs (keyG n (f0 * n + g0))).isSome = true) := by
      by_cases ha : Alike zs c c' m n f0 g0
      · have := alike_no gn hN' ha
        exact .inl ⟨ha, this, (LO _ Fin).2 this⟩
      · refine .inr ⟨ha, ?_⟩
        by_cases ww : ∃ k, WdP zs c c' n (f0 * n + g0) k
        · obtain ⟨k, hk⟩ := ww
          obtain ⟨j, _, hd⟩ := dist_ex hk
          rw [(LO _ Fin).1 j hd]
          rfl
        · exact absurd (no_alike hN hN' fm gn fun k hk => ww ⟨k, hk⟩) ha
    have eb : b = !(valN kvs (keyG n (f0 * n + g0))).isSome := by
      rcases hcase with ⟨ha, _, e⟩ | ⟨ha, e⟩
      · rw [e, hbA.mpr ha]; rfl
      · rw [e]
        cases b with
        | false => rfl
        | true => exact absurd (hbA.mp rfl) ha
    have hcase2 : (Alike zs c c' m n f0 g0 ∧ valN kvs (keyG n (f0 * n + g0)) = none) ∨ (¬ Alike zs c c' m n f0 g0 ∧ (valN kvs (keyG n (f0 * n + g0))).isSome = true) := hcase.imp_left fun h => ⟨h.1, h.2.2⟩
    refine isi_bl_bool ⟨true, rfl, ?_⟩
    rw [if_neg (by decide)]
    refine ⟨sd, rfl, kvs, dn_kp hsd k3, _, nk_pair hst3, rfl, ?_⟩
    rw [eb, decide_eq_true rfl, if_neg (by decide)]
    have fst : ∀ (rv : V) H4, Kp [] H3 H4 → ((((∀ k, ¬ WdP zs c c' n (f0 * n + g0) k) ∧ rv = .non) ∨ ∃ r row, rv = .ref r ∧ H4 r = some (.lst (row.map V.str)) ∧ row.length ≤ 10001 ∧ FirstRow zs c c' n (f0 * n + g0) row)) → ∀ (Q1 : VK) (E1 : XK), (∀ H', Kp [] H4 H' → Q1 (.bl true) H') → spFst P w [rv, .ref rd, .ref ld, .ref nl, .ref sd, .ref st] H4 Q1 E1 := fun rv H4 k4 hrv Q1 E1 hq => by
      have k04 := k03.trans k4
      exact ⟨rv, rd, ld, nl, sd, st, m, n, _, zs, c, c', _, kvs, rfl, hrw.kp k04, hlw.kp k04, k04 _ _ not0 hn, nd, nm, hb, hb', mn, dn_kp (dn_kp hsd k3) k4, LO, fun x hx => ⟨FO.2 x hx, Fcl x hx⟩, Fin, k4 _ _ not0 hst3, hrv, hq⟩
    refine ⟨oa, ob, m, n, f0, g0, zs, zs', c, c', rfl, hA.kp k03, hB.kp k03, fun _ ha H4 k4 => ?_, fun _ ha r row H4 nr hrr hF k4 => ?_, fun hp => absurd pm hp⟩
    · dsimp only
      refine fst _ H4 k4 (.inl ⟨alike_no gn hN' ha, rfl⟩) _ _ fun H5 k5 => ⟨true, rfl, ?_⟩
      rw [if_neg (by decide), if_neg (by decide)]
      exact hq pl sd _ _ _ _ ps kvs H5 (((k2.trans k3).trans k4).trans k5 _ _ not0 hpl) (((((hps.kp k2).kp k3).kp k4)).kp k5) (dn_kp (dn_kp (dn_kp hsd k3) k4) k5) hcase2 ((k03.trans k4).trans k5)
    · dsimp only
      obtain ⟨L, eL, _, hD, _⟩ := first_spec nd hF
      have rl : row.length ≤ 10001 := by
        have := hD 0 (Nat.zero_le _)
        obtain ⟨l, a, b, d, _⟩ := dist_lt (F := fndC zs (pairC c c' n) (f0 * n + g0) (m * n)) (fun x hx => Fcl x hx) (L - 0) _ Fin this
        have h1 := nodup_lenP a d
        have h2 := nodup_lenP (l := fndC zs (pairC c c' n) (f0 * n + g0) (m * n)) (m := List.range (m * n)) FO.1 fun y hy => List.mem_range.mpr (FO.2 y hy)
        rw [List.length_range] at h2
        omega
      refine fst _ H4 k4 (.inr ⟨r, row, rfl, hrr, rl, hF⟩) _ _ fun H5 k5 => ⟨true, rfl, ?_⟩
      rw [if_neg (by decide), if_pos (by rw [decide_eq_false (fun z => by cases z)]; rfl)]
      have hr5 := k5 _ _ not0 hrr
      have nr0 : H r = none := noneB k03 nr
      have pr : pl ≠ r := fun z => by rw [← z, ((k2.trans k3) _ _ not0 hpl)] at nr; cases nr
      have sr : sd ≠ r := Ne.symm (dn_nl (dn_kp (dn_kp (dn_kp hsd k3) k4) k5) hr5)
      have k25 := ((k2.trans k3).trans k4).trans k5
      refine ⟨.inl ⟨rfl, _, sq_l hr5⟩, r, rfl, _, hr5, smallL (by rw [List.length_map]; omega), ?_⟩
      exact hq pl sd _ _ _ _ ps kvs _ (by rw [upd_ne pr]; exact k25 _ _ not0 hpl) ((hps.kp k25).tp fun b us e => by rw [upd_ne (fun z => by rw [z, hr5] at e; cases e)]; exact e) (dn_wr (dn_kp (dn_kp (dn_kp hsd k3) k4) k5) hr5 sr) hcase2 (((k03.trans k4).trans k5).wr nr0)
end
end My

set_option Elab.async false
set_option linter.all false
set_option maxRecDepth 100000
set_option maxHeartbeats 4000000
namespace My
open PySem L2 NdefX StX
abbrev s_law_second : Stmt := top 42
theorem sc_law_second : FnScope ["_law_script", "_law_d", "_law_names_here", "_law_rows_here", "_law_start", "_law_wide", "_law_last", "_law_row", "_law_spot", "_law_pair"] ["_law_script", "_law_d", "_law_names_here", "_law_rows_here", "_law_start"] (defScope s_law_second) := ⟨rfl, rfl, rfl, by decide +kernel, rfl, by decide +kernel, by decide +kernel⟩
def spans16 : List Int := [8, 4, 8, 12, 4, 6, 100, 100, 10, 10, 9, 60, 2]
theorem RwAt.poke {H : Hp} {rd l p : Addr} {zs : List Str} {m sp : Nat} {c : Str → Nat → Int × Int} {z : Str} {v u : Int} {kvs : List (Key × V)} (h : RwAt H rd zs m c) (hb : CellB zs m 10 c) (nd : zs.Nodup) (hz : z ∈ zs) (hd : H rd = some (.dK kvs)) (ev : valV kvs (Sum.inr z) = some (.ref l)) (hs : sp < m) (hp : H p = some (.tup [.int v, .int u])) (bv : 0 ≤ v ∧ v < 10) (bu : 0 ≤ u ∧ u < (m : Nat)) :
    ∃ xs, H l = some (.lst xs) ∧ xs.length = m ∧ ∃ c', RwAt (upd H l (.lst (xs.set sp (.ref p)))) rd zs m c' ∧ CellB zs m 10 c' := by
  obtain ⟨kv0, l0, xs, hd0, ev0, hl, hc⟩ := h.get nd hz
  rw [hd] at hd0
  cases hd0
  rw [ev] at ev0
  cases ev0
  refine ⟨xs, hl, hc.1, fun z' s => if valV kvs (Sum.inr z') = some (.ref l) ∧ s = sp then (v, u) else c z' s, ?_, fun z' hz' s hs' => ?_⟩
  · obtain ⟨kvs', hd', hlen, hv⟩ := id h
    rw [hd] at hd'
    cases hd'
    have tupl : ∀ b us, H b = some (.tup us) → (upd H l (.lst (xs.set sp (.ref p)))) b = some (.tup us) := fun b us e => by
      rw [upd_ne (fun z => by rw [z, hl] at e; cases e)]
      exact e
    refine ⟨kvs, ?_, hlen, fun i y e => ?_⟩
    · rw [upd_ne (fun z => by rw [z, hl] at hd; cases hd)]
      exact hd
    obtain ⟨l', xs', a, b, cc⟩ := hv i y e
    have ey : valV kvs (Sum.inr y) = some (.ref l') := by
      refine valV_mem ?_ (List.mem_of_getElem? a)
      rw [RwAt.keys (P := fun _ _ _ => True) hlen fun i z e => by obtain ⟨l, xs, a, _⟩ := hv i z e; exact ⟨_, a, True.intro⟩]
      exact List.pairwise_map.mpr (nd.imp fun h e => h (by cases e; rfl))
    by_cases w : l' = l
    · subst w
      rw [hl] at b
      cases b
      refine ⟨l', _, a, upd_same, by rw [List.length_set]; exact hc.1, fun s hs2 => ?_⟩
      dsimp only
      by_cases w2 : s = sp
      · subst w2
        rw [if_pos ⟨ey, rfl⟩]
        exact ⟨p, by rw [List.getElem?_set_self (by rw [hc.1]; exact hs)], tupl _ _ hp⟩
      · rw [if_neg (fun x => w2 x.2)]
        obtain ⟨p', e', hp'⟩ := cc.2 s hs2
        exact ⟨p', by rw [List.getElem?_set_ne (fun x => w2 x.symm)]; exact e', tupl _ _ hp'⟩
    · refine ⟨l', xs', a, by rw [upd_ne w]; exact b, cc.1, fun s hs2 => ?_⟩
      dsimp only
      rw [if_neg (fun x => w (by rw [ey] at x; cases x.1; rfl))]
      obtain ⟨p', e', hp'⟩ := cc.2 s hs2
      exact ⟨p', e', tupl _ _ hp'⟩
  · dsimp only
    by_cases w : valV kvs (Sum.inr z') = some (.ref l) ∧ s = sp
    · rw [if_pos w]
      exact ⟨bv, bu⟩
    · rw [if_neg w]
      exact hb z' hz' s hs'
section
variable {P : Program} {w : World} {K : PySem.W.Frag} {mg : Str → Option Value} {base : Heap}
def spSecond (K : PySem.W.Frag) : Sp := fun vs H Q _ => ∃ (a dl nl rd : Addr) (m s0 : Nat) (ns ds : List Int) (zs : List Str) (c : Str → Nat → Int × Int), vs = [.ref a, .ref dl, .ref nl, .ref rd, .int (s0 : Nat)] ∧ Scr K H a ns ∧ H dl = some (.lst (ds.map V.int)) ∧ DrawOk spans16 ds ∧ RwAt H rd zs m c ∧ H nl = some (.lst (zs.map V.str)) ∧ zs.Nodup ∧ zs ≠ [] ∧ zs.length ≤ 6 ∧ CellB zs m 10 c ∧ 1 ≤ m ∧ m ≤ 10 ∧ s0 < m ∧
  ∀ (l r : Addr) (b n : Nat) (xs : List V) (c' : Str → Nat → Int × Int) (H' : Hp), H' l = some (.lst (.ref r :: .int (b : Nat) :: xs)) → RwAt H' r zs n c' → CellB zs n 10 c' → b < n → 1 ≤ n → n ≤ 100 → Kp [] H H' → Q (.ref l) H'
theorem ok_law_second {f : Addr} {fd : FuncData} (D : Df K mg "_law_second" s_law_second ["_law_script", "_law_d", "_law_names_here", "_law_rows_here", "_law_start"] f fd) (T : BtP mg) {f1 : Addr} {fd1 : FuncData} (D_law_rows : Df K mg "_law_rows" s_law_rows ["_law_script", "_law_at", "_law_names_here", "_law_size", "_law_most"] f1 fd1) (G_law_rows : FnOk P w K mg base CX0 3 f1 fd1 ["_law_script", "_law_at", "_law_names_here", "_law_size", "_law_most"] (spRows K)) {f3 : Addr} {fd3 : FuncData} (D_law_copies : Df K mg "_law_copies" s_law_copies ["_law_script", "_law_at", "_law_names_here", "_law_rows_here", "_law_start"] f3 fd3) (G_law_copies : FnOk P w K mg base CX0 3 f3 fd3 ["_law_script", "_law_at", "_law_names_here", "_law_rows_here", "_law_start"] (spCopies K)) : FnOk P w K mg base CX0 4 f fd ["_law_script", "_law_d", "_law_names_here", "_law_rows_here", "_law_start"] (spSecond K) := by
  refine D.F.ok sc_law_second (fun vs H Q E h => ?_) (fun cdv A outer s H vs Q E hr h => ?_)
  · obtain ⟨_, _, _, _, _, _, _, _, _, _, rfl, _⟩ := h
    rfl
  · obtain ⟨a, dl, nl, rd, m, s0, ns, ds, zs, c, rfl, hS, hdl, hd, hrw, hn, nd, zne, z6, hb, m1, m10, s0m, q⟩ := h
    have hu := hu_of hr
    have dlen : ds.length = 13 := hd.1
    have dd : ∀ (i : Nat) (b : Int), spans16[i]? = some b → ∃ v, ds[i]? = some v ∧ 0 ≤ v ∧ v < b := fun i b e => by
      have hi : i < 13 := (List.getElem?_eq_some_iff.mp e).1
      have e2 := List.getElem?_eq_getElem (l := ds) (i := i) (by omega)
      exact ⟨_, e2, hd.2 i _ _ e2 e⟩
    have dV : ∀ {i : Nat} {v : Int}, ds[i]? = some v → atI (ds.map V.int) ((i : Nat) : Int) = some (.int v) := fun {i v} e => atI_nat (by rw [List.getElem?_map, e]; rfl)
    obtain ⟨d2, e2, l2, u2⟩ := dd 2 8 rfl
    obtain ⟨d4, e4, l4, u4⟩ := dd 4 4 rfl
    obtain ⟨d6, e6, l6, u6⟩ := dd 6 100 rfl
    obtain ⟨d10, e10, l10, u10⟩ := dd 10 9 rfl
    obtain ⟨d11, e11, l11, u11⟩ := dd 11 60 rfl
    refine ⟨_, (pss_cons (ps_if (pt_cmpR op_lt (pe_ix (r := rIxL K) ix_list (pv 1) pe_int (fun _ _ => rfl)) pe_int (nomark _)) (pss_cons (ps_set (i := 5) sc_law_second.nd rfl (Or.inl rfl) (pe_op op_add pe_int (pe_op op_mod (pe_callTy (T := "int") (r := rIv) call_int1 (by rfl) T.b_int (by decide +kernel) (pa_cons (pe_ix (r := rIxL K) ix_list (pv 1) pe_int (fun _ _ => rfl)) pa_nil)) pe_int)))
      (pss_one (ps_ret (pe_lst (pa_cons (pe_call G_law_rows (hr.mono (by decide)) rfl D_law_rows.g D_law_rows.F.kp D_law_rows.b .nil pass0 (pa_cons (pv 0) (pa_cons pe_int (pa_cons (pv 2) (pa_cons (pv 5) (pa_cons (pe_ix (r := rIxL K) ix_list (pe_lst (pa_cons pe_int (pa_cons pe_int (pa_cons pe_int (pa_cons pe_int pa_nil))))) (pe_ix (r := rIxL K) ix_list (pv 1) pe_int (fun _ _ => rfl)) (fun _ _ => rfl)) pa_nil)))))) (pa_cons (pe_op op_mod (pe_callTy (T := "int") (r := rIv) call_int1 (by rfl) T.b_int (by decide +kernel) (pa_cons (pe_ix (r := rIxL K) ix_list (pv 1) pe_int (fun _ _ => rfl)) pa_nil)) (pv 5)) pa_nil)))))) pss_nil)
      (pss_cons (ps_if (pt_cmpR op_gt (pe_ix (r := rIxL K) ix_list (pv 1) pe_int (fun _ _ => rfl)) pe_int (nomark _)) (pss_one (ps_ret (pe_lst (pa_cons (pv 3) (pa_cons (pe_op op_mod (pe_callTy (T := "int") (r := rIv) call_int1 (by rfl) T.b_int (by decide +kernel) (pa_cons (pe_ix (r := rIxL K) ix_list (pv 1) pe_int (fun _ _ => rfl)) pa_nil)) (pe_callB (id := "len") (r := Evl.rLenS K) call_len_seq (by rfl) T.b_len PySem.boot_len (pa_cons (pe_dget hu (pv 3) (pe_ix (r := rIxL K) ix_list (pv 2) pe_int (fun _ _ => rfl)) (fun _ _ => rfl)) pa_nil))) pa_nil))))) pss_nil)
      (pss_cons (ps_set (i := 6) sc_law_second.nd rfl (Or.inl rfl) (pe_call G_law_copies (hr.mono (by decide)) rfl D_law_copies.g D_law_copies.F.kp D_law_copies.b .nil pass0 (pa_cons (pv 0) (pa_cons pe_int (pa_cons (pv 2) (pa_cons (pv 3) (pa_cons (pv 4) pa_nil)))))))
      (pss_cons (ps_set (i := 7) sc_law_second.nd rfl (Or.inl rfl) (pe_dget hu (pe_ix (r := rIxL K) ix_list (pv 6) pe_int (fun _ _ => rfl)) (pe_ix (r := rIxL K) ix_list (pv 2) (pe_op op_mod (pe_callTy (T := "int") (r := rIv) call_int1 (by rfl) T.b_int (by decide +kernel) (pa_cons (pe_ix (r := rIxL K) ix_list (pv 1) pe_int (fun _ _ => rfl)) pa_nil)) (pe_callB (id := "len") (r := Evl.rLenS K) call_len_seq (by rfl) T.b_len PySem.boot_len (pa_cons (pv 2) pa_nil))) (fun _ _ => rfl)) (fun _ _ => rfl)))
      (pss_cons (ps_set (i := 8) sc_law_second.nd rfl (Or.inl rfl) (pe_op op_mod (pe_callTy (T := "int") (r := rIv) call_int1 (by rfl) T.b_int (by decide +kernel) (pa_cons (pe_ix (r := rIxL K) ix_list (pv 1) pe_int (fun _ _ => rfl)) pa_nil)) (pe_callB (id := "len") (r := Evl.rLenS K) call_len_seq (by rfl) T.b_len PySem.boot_len (pa_cons (pv 7) pa_nil))))
      (pss_cons (ps_set (i := 9) sc_law_second.nd rfl (Or.inl rfl) (pe_ix (r := rIxL K) ix_list (pv 7) (pv 8) (fun _ _ => rfl)))
      (pss_cons (ps_if (pt_cmpR op_eq (pe_ix (r := rIxL K) ix_list (pv 1) pe_int (fun _ _ => rfl)) pe_int (nomark _)) (pss_one (ps_asg (pe_tup (pa_cons (pe_op op_mod (pe_callTy (T := "int") (r := rIv) call_int1 (by rfl) T.b_int (by decide +kernel) (pa_cons (pe_op op_add (pe_op op_add (pe_ix (r := rIxT K) ix_tup (pv 9) pe_int (fun _ _ => rfl)) pe_int) (pe_ix (r := rIxL K) ix_list (pv 1) pe_int (fun _ _ => rfl))) pa_nil)) pe_int) (pa_cons (pe_ix (r := rIxT K) ix_tup (pv 9) pe_int (fun _ _ => rfl)) pa_nil))) (pg_sub (pv 7) (pv 8) set_list))) pss_nil)
      (pss_cons (ps_if (pt_cmpR op_eq (pe_ix (r := rIxL K) ix_list (pv 1) pe_int (fun _ _ => rfl)) pe_int (nomark _)) (pss_one (ps_asg (pe_tup (pa_cons (pe_ix (r := rIxT K) ix_tup (pv 9) pe_int (fun _ _ => rfl)) (pa_cons (pe_op op_mod (pe_callTy (T := "int") (r := rIv) call_int1 (by rfl) T.b_int (by decide +kernel) (pa_cons (pe_ix (r := rIxL K) ix_list (pv 1) pe_int (fun _ _ => rfl)) pa_nil)) (pe_callB (id := "len") (r := Evl.rLenS K) call_len_seq (by rfl) T.b_len PySem.boot_len (pa_cons (pv 7) pa_nil))) pa_nil))) (pg_sub (pv 7) (pv 8) set_list))) pss_nil)
      (pss_one (ps_ret (pv 6))))))))))), ?_⟩
    try simp (maxSteps := 1000000) only [tSeq, tIfS, tTest, tOp, tUn, tCB, tCons, tNil, tVar, tC, rI0, rI, rU, rEq, rNe, tRet, tRetN, tAsg, gName, gSub, tBM, tBM0, tNext, tB, tNot, tAnd, tOr, tIf, tCall, tDrop, tBreak, tCont, L2.start, tDGet, sDPut, tTup, tLst, tDNewK, tRevL, rCat, rAppend, rPop, rSetL, tAndV, tOrV, tNotV, tSl, tPart, tNoPart, tM1, gTup, gCons, gNil, cxK, cxnK, List.map_cons, List.map_nil, List.length_cons, List.length_nil, List.replicate, List.cons_append, List.nil_append, List.append_nil, List.set_cons_zero, List.set_cons_succ, List.getElem?_cons_zero, List.getElem?_cons_succ, Option.some.injEq, V.ref.injEq, V.int.injEq, V.str.injEq, V.bl.injEq, V.ty.injEq, exists_eq_left', exists_eq_left, exists_and_left, List.cons.injEq, and_true, true_and, sc_ii, sc_ss, sc_bb, sc_ni, sc_in, sc_is, sc_si, sc_nn, decide_true, decide_false, reduceCtorEq, Bool.false_eq_true, if_true, if_false, ite_true, ite_false, exists_const, eq_self, false_and, and_false, or_false, false_or, exists_false, Evl.rLenS, rSum, wipe, tYes, exists_eq, exists_eq', rIxL, rIxT, rIxS, exists_and_right, gt_iff_lt, not_true_eq_false, not_false_eq_true, Bool.not_true, Bool.not_false, decide_eq_true_eq, Nat.reduceSub, Nat.reduceAdd, List.append_assoc, tChain, tDIn, tDNotIn, sDDel, tAug, ipI, rIv_int]
    refine ⟨_, sq_l hdl, _, dV e2, d2, rfl, ?_⟩
    by_cases w1 : d2 < 2
    · rw [if_pos w1]
      refine ⟨_, sq_l hdl, _, dV e10, ?_⟩
      try simp (maxSteps := 1000000) only [tSeq, tIfS, tTest, tOp, tUn, tCB, tCons, tNil, tVar, tC, rI0, rI, rU, rEq, rNe, tRet, tRetN, tAsg, gName, gSub, tBM, tBM0, tNext, tB, tNot, tAnd, tOr, tIf, tCall, tDrop, tBreak, tCont, L2.start, tDGet, sDPut, tTup, tLst, tDNewK, tRevL, rCat, rAppend, rPop, rSetL, tAndV, tOrV, tNotV, tSl, tPart, tNoPart, tM1, gTup, gCons, gNil, cxK, cxnK, List.map_cons, List.map_nil, List.length_cons, List.length_nil, List.replicate, List.cons_append, List.nil_append, List.append_nil, List.set_cons_zero, List.set_cons_succ, List.getElem?_cons_zero, List.getElem?_cons_succ, Option.some.injEq, V.ref.injEq, V.int.injEq, V.str.injEq, V.bl.injEq, V.ty.injEq, exists_eq_left', exists_eq_left, exists_and_left, List.cons.injEq, and_true, true_and, sc_ii, sc_ss, sc_bb, sc_ni, sc_in, sc_is, sc_si, sc_nn, decide_true, decide_false, reduceCtorEq, Bool.false_eq_true, if_true, if_false, ite_true, ite_false, exists_const, eq_self, false_and, and_false, or_false, false_or, exists_false, Evl.rLenS, rSum, wipe, tYes, exists_eq, exists_eq', rIxL, rIxT, rIxS, exists_and_right, gt_iff_lt, not_true_eq_false, not_false_eq_true, Bool.not_true, Bool.not_false, decide_eq_true_eq, Nat.reduceSub, Nat.reduceAdd, List.append_assoc, tChain, tDIn, tDNotIn, sDDel, tAug, ipI, rIv_int]
      obtain ⟨W, eW⟩ : ∃ W : Nat, 1 + d10 % 5 = (W : Nat) := ⟨(1 + d10 % 5).toNat, by omega⟩
      refine ⟨by decide, by rw [sizeLine_eq]; decide, fun p np => ?_⟩
      have kp := (Kp.new np : Kp [] H (upd H p (.lst [.int 2, .int 2, .int 3, .int 10])))
      obtain ⟨v4, ev4, b4⟩ : ∃ v : Int, atI [V.int 2, V.int 2, V.int 3, V.int 10] d4 = some (.int v) ∧ 1 ≤ v ∧ v ≤ 10 := by
        have : d4 = 0 ∨ d4 = 1 ∨ d4 = 2 ∨ d4 = 3 := by omega
        rcases this with rfl | rfl | rfl | rfl
        · exact ⟨2, rfl, by decide, by decide⟩
        · exact ⟨2, rfl, by decide, by decide⟩
        · exact ⟨3, rfl, by decide, by decide⟩
        · exact ⟨10, rfl, by decide, by decide⟩
      refine ⟨_, sq_l (kp _ _ not0 hdl), _, dV e4, _, _, rfl, sq_l upd_same, _, ev4, ?_⟩
      rw [eW]
      refine ⟨a, nl, 3, W, v4, ns, zs, rfl, ⟨kp.ls not0 hS.1, hS.2⟩, by decide, kp _ _ not0 hn, nd, by omega, by omega, by omega, b4.1, b4.2, fun r c' H1 nr hR hB k1 => ?_⟩
      have k01 := kp.trans k1
      refine ⟨_, sq_l (k01 _ _ not0 hdl), _, dV e11, ?_⟩
      try simp (maxSteps := 1000000) only [tSeq, tIfS, tTest, tOp, tUn, tCB, tCons, tNil, tVar, tC, rI0, rI, rU, rEq, rNe, tRet, tRetN, tAsg, gName, gSub, tBM, tBM0, tNext, tB, tNot, tAnd, tOr, tIf, tCall, tDrop, tBreak, tCont, L2.start, tDGet, sDPut, tTup, tLst, tDNewK, tRevL, rCat, rAppend, rPop, rSetL, tAndV, tOrV, tNotV, tSl, tPart, tNoPart, tM1, gTup, gCons, gNil, cxK, cxnK, List.map_cons, List.map_nil, List.length_cons, List.length_nil, List.replicate, List.cons_append, List.nil_append, List.append_nil, List.set_cons_zero, List.set_cons_succ, List.getElem?_cons_zero, List.getElem?_cons_succ, Option.some.injEq, V.ref.injEq, V.int.injEq, V.str.injEq, V.bl.injEq, V.ty.injEq, exists_eq_left', exists_eq_left, exists_and_left, List.cons.injEq, and_true, true_and, sc_ii, sc_ss, sc_bb, sc_ni, sc_in, sc_is, sc_si, sc_nn, decide_true, decide_false, reduceCtorEq, Bool.false_eq_true, if_true, if_false, ite_true, ite_false, exists_const, eq_self, false_and, and_false, or_false, false_or, exists_false, Evl.rLenS, rSum, wipe, tYes, exists_eq, exists_eq', rIxL, rIxT, rIxS, exists_and_right, gt_iff_lt, not_true_eq_false, not_false_eq_true, Bool.not_true, Bool.not_false, decide_eq_true_eq, Nat.reduceSub, Nat.reduceAdd, List.append_assoc, tChain, tDIn, tDNotIn, sDDel, tAug, ipI, rIv_int]
      refine ⟨by omega, by rw [sizeLine_eq]; decide, fun l nl' => ?_⟩
      have kl := (Kp.new nl' : Kp [] H1 (upd H1 l (.lst [.ref r, .int (d11 % (W : Nat))])))
      obtain ⟨B, eB⟩ : ∃ B : Nat, d11 % ((W : Nat) : Int) = (B : Nat) := ⟨(d11 % ((W : Nat) : Int)).toNat, by have := Int.emod_nonneg d11 (show ((W : Nat) : Int) ≠ 0 by omega); omega⟩
      have BW : B < W := by have := Int.emod_lt_of_pos d11 (show (0 : Int) < ((W : Nat) : Int) by omega); omega
      rw [eB] at kl ⊢
      exact q l r B W [] c' _ upd_same (hR.kp kl) (fun z hz s hs => by
        have := hB z hz s hs
        omega) BW (by omega) (by omega) (k01.trans kl)
    · rw [if_neg w1]
      refine ⟨_, sq_l hdl, _, dV e2, d2, rfl, ?_⟩
      obtain ⟨z0, r0, ez0⟩ : ∃ z r, zs = z :: r := by
        cases zs with
        | nil => exact absurd rfl zne
        | cons z r => exact ⟨z, r, rfl⟩
      have hz0 : z0 ∈ zs := by rw [ez0]; simp
      by_cases w2 : 5 < d2
      · rw [if_pos w2]
        refine ⟨_, sq_l hdl, _, dV e11, ?_⟩
        try simp (maxSteps := 1000000) only [tSeq, tIfS, tTest, tOp, tUn, tCB, tCons, tNil, tVar, tC, rI0, rI, rU, rEq, rNe, tRet, tRetN, tAsg, gName, gSub, tBM, tBM0, tNext, tB, tNot, tAnd, tOr, tIf, tCall, tDrop, tBreak, tCont, L2.start, tDGet, sDPut, tTup, tLst, tDNewK, tRevL, rCat, rAppend, rPop, rSetL, tAndV, tOrV, tNotV, tSl, tPart, tNoPart, tM1, gTup, gCons, gNil, cxK, cxnK, List.map_cons, List.map_nil, List.length_cons, List.length_nil, List.replicate, List.cons_append, List.nil_append, List.append_nil, List.set_cons_zero, List.set_cons_succ, List.getElem?_cons_zero, List.getElem?_cons_succ, Option.some.injEq, V.ref.injEq, V.int.injEq, V.str.injEq, V.bl.injEq, V.ty.injEq, exists_eq_left', exists_eq_left, exists_and_left, List.cons.injEq, and_true, true_and, sc_ii, sc_ss, sc_bb, sc_ni, sc_in, sc_is, sc_si, sc_nn, decide_true, decide_false, reduceCtorEq, Bool.false_eq_true, if_true, if_false, ite_true, ite_false, exists_const, eq_self, false_and, and_false, or_false, false_or, exists_false, Evl.rLenS, rSum, wipe, tYes, exists_eq, exists_eq', rIxL, rIxT, rIxS, exists_and_right, gt_iff_lt, not_true_eq_false, not_false_eq_true, Bool.not_true, Bool.not_false, decide_eq_true_eq, Nat.reduceSub, Nat.reduceAdd, List.append_assoc, tChain, tDIn, tDNotIn, sDDel, tAug, ipI, rIv_int]
        obtain ⟨kvs, l0, xs, hd1, ev, hl, hcl⟩ := hrw.get nd hz0
        refine ⟨_, sq_l hn, .str z0, atI_of (by decide) (by rw [ez0]; rfl), _, ev ▸ DGet.k (k := Sum.inr z0) hd1, l0, rfl, xs, .inl (sq_l hl), ?_⟩
        rw [hcl.1]
        refine ⟨by omega, by rw [sizeLine_eq]; decide, fun l nl' => ?_⟩
        have kl := (Kp.new nl' : Kp [] H (upd H l (.lst [.ref rd, .int (d11 % (m : Nat))])))
        obtain ⟨B, eB⟩ : ∃ B : Nat, d11 % ((m : Nat) : Int) = (B : Nat) := ⟨(d11 % ((m : Nat) : Int)).toNat, by have := Int.emod_nonneg d11 (show ((m : Nat) : Int) ≠ 0 by omega); omega⟩
        have BW : B < m := by have := Int.emod_lt_of_pos d11 (show (0 : Int) < ((m : Nat) : Int) by omega); omega
        rw [eB] at kl ⊢
        exact q l rd B m [] c _ upd_same (hrw.kp kl) hb BW (by omega) (by omega) kl
      · rw [if_neg w2]
        refine ⟨a, nl, rd, 3, m, s0, ns, zs, c, rfl, hS, by decide, hrw, hn, nd, zne, z6, hb, m1, m10, s0m, fun l r x s' M c' H1 nl1 nr nx1 hl hx hR hB M1 M2 _ _ sM _ k1 => ?_⟩
        dsimp only
        have hdl1 := k1 _ _ not0 hdl
        have hn1 := k1 _ _ not0 hn
        have zpos : 0 < zs.length := List.length_pos_iff.mpr zne
        refine ⟨l, rfl, _, sq_l hl, _, rfl, _, sq_l hdl1, _, dV e10, ?_⟩
        try simp (maxSteps := 1000000) only [tSeq, tIfS, tTest, tOp, tUn, tCB, tCons, tNil, tVar, tC, rI0, rI, rU, rEq, rNe, tRet, tRetN, tAsg, gName, gSub, tBM, tBM0, tNext, tB, tNot, tAnd, tOr, tIf, tCall, tDrop, tBreak, tCont, L2.start, tDGet, sDPut, tTup, tLst, tDNewK, tRevL, rCat, rAppend, rPop, rSetL, tAndV, tOrV, tNotV, tSl, tPart, tNoPart, tM1, gTup, gCons, gNil, cxK, cxnK, List.map_cons, List.map_nil, List.length_cons, List.length_nil, List.replicate, List.cons_append, List.nil_append, List.append_nil, List.set_cons_zero, List.set_cons_succ, List.getElem?_cons_zero, List.getElem?_cons_succ, Option.some.injEq, V.ref.injEq, V.int.injEq, V.str.injEq, V.bl.injEq, V.ty.injEq, exists_eq_left', exists_eq_left, exists_and_left, List.cons.injEq, and_true, true_and, sc_ii, sc_ss, sc_bb, sc_ni, sc_in, sc_is, sc_si, sc_nn, decide_true, decide_false, reduceCtorEq, Bool.false_eq_true, if_true, if_false, ite_true, ite_false, exists_const, eq_self, false_and, and_false, or_false, false_or, exists_false, Evl.rLenS, rSum, wipe, tYes, exists_eq, exists_eq', rIxL, rIxT, rIxS, exists_and_right, gt_iff_lt, not_true_eq_false, not_false_eq_true, Bool.not_true, Bool.not_false, decide_eq_true_eq, Nat.reduceSub, Nat.reduceAdd, List.append_assoc, tChain, tDIn, tDNotIn, sDDel, tAug, ipI, rIv_int]
        refine ⟨_, .inl (sq_l hn1), ?_⟩
        rw [List.length_map]
        have q0 := Int.emod_nonneg d10 (show ((zs.length : Nat) : Int) ≠ 0 by omega)
        have q1 := Int.emod_lt_of_pos d10 (show (0 : Int) < (zs.length : Nat) by omega)
        obtain ⟨z, hz, ez⟩ := pick_of q0 q1
        refine ⟨by omega, _, sq_l hn1, _, ez, ?_⟩
        obtain ⟨hRw, kvs, ls, hd2, els, lnd, lnew⟩ := id hR
        obtain ⟨kvs2, rl, xs, hd3, ev, hrl, hcl⟩ := hRw.get nd hz
        rw [hd2] at hd3
        cases hd3
        have nrl : H rl = none := by
          obtain ⟨kv4, hd4, hlen, hv⟩ := id hRw
          rw [hd2] at hd4
          cases hd4
          obtain ⟨i, ei⟩ := List.getElem?_of_mem hz
          obtain ⟨l', xs', a', _⟩ := hv i z ei
          have ey : valV kvs (Sum.inr z) = some (.ref l') := by
            refine valV_mem ?_ (List.mem_of_getElem? a')
            rw [RwAt.keys (P := fun _ _ _ => True) hlen fun i z e => by obtain ⟨l, xs, a, _⟩ := hv i z e; exact ⟨_, a, True.intro⟩]
            exact List.pairwise_map.mpr (nd.imp fun h e => h (by cases e; rfl))
          rw [ev] at ey
          cases ey
          have : (kvs.map (·.2))[i]? = some (.ref rl) := by rw [List.getElem?_map, a']; rfl
          rw [els, List.getElem?_map] at this
          cases e : ls[i]? with
          | none => rw [e] at this; cases this
          | some y =>
            rw [e] at this
            cases this
            exact (lnew _ (List.mem_of_getElem? e)).1
        have b0 := Int.emod_nonneg d11 (show ((M.length : Nat) : Int) ≠ 0 by omega)
        have b1 := Int.emod_lt_of_pos d11 (show (0 : Int) < (M.length : Nat) by omega)
        obtain ⟨sp, esp⟩ : ∃ sp : Nat, d11 % ((M.length : Nat) : Int) = (sp : Nat) := ⟨(d11 % ((M.length : Nat) : Int)).toNat, by omega⟩
        obtain ⟨pt, ept, hpt⟩ := hcl.2 sp (by omega)
        have lrl : l ≠ rl := fun e => by
          rw [e, hrl] at hl
          cases hl
          obtain ⟨p0, e0, h0⟩ := hcl.2 0 (by omega)
          cases e0
          rw [hd2] at h0
          cases h0
        obtain ⟨⟨c0, c1⟩, c2, c3⟩ := hB z hz sp (by omega)
        have fin : ∀ (v u : Int) (p : Addr), H1 p = none → (0 ≤ v ∧ v < 10) → (0 ≤ u ∧ u < (M.length : Nat)) → (upd H1 p (.tup [.int v, .int u])) rl = some (.lst xs) ∧ (upd (upd H1 p (.tup [.int v, .int u])) rl (.lst (xs.set sp (.ref p)))) dl = some (.lst (ds.map V.int)) ∧ Q (.ref l) (upd (upd H1 p (.tup [.int v, .int u])) rl (.lst (xs.set sp (.ref p)))) := fun v u p np bv bu => by
          have kp : Kp [] H1 (upd H1 p (.tup [.int v, .int u])) := Kp.new np
          have hp : (upd H1 p (.tup [.int v, .int u])) p = some (.tup [.int v, .int u]) := upd_same
          generalize upd H1 p (.tup [.int v, .int u]) = H2 at kp hp ⊢
          obtain ⟨xs', hl', _, c2, hR2, hB2⟩ := (hRw.kp kp).poke hB nd hz (kp _ _ not0 hd2) ev (show sp < M.length by omega) hp bv bu
          rw [kp _ _ not0 hrl] at hl'
          cases hl'
          refine ⟨kp _ _ not0 hrl, ?_, ?_⟩
          · rw [upd_ne (fun e => by rw [e, nrl] at hdl; cases hdl)]
            exact kp _ _ not0 hdl1
          · exact q l r s' M.length _ c2 _ (by rw [upd_ne lrl]; exact kp _ _ not0 hl) hR2 hB2 sM M1 (by omega) ((k1.trans kp).wr nrl)
        refine ⟨_, ev ▸ DGet.k (k := Sum.inr z) hd2, _, sq_l hdl1, _, dV e11, ?_⟩
        try simp (maxSteps := 1000000) only [tSeq, tIfS, tTest, tOp, tUn, tCB, tCons, tNil, tVar, tC, rI0, rI, rU, rEq, rNe, tRet, tRetN, tAsg, gName, gSub, tBM, tBM0, tNext, tB, tNot, tAnd, tOr, tIf, tCall, tDrop, tBreak, tCont, L2.start, tDGet, sDPut, tTup, tLst, tDNewK, tRevL, rCat, rAppend, rPop, rSetL, tAndV, tOrV, tNotV, tSl, tPart, tNoPart, tM1, gTup, gCons, gNil, cxK, cxnK, List.map_cons, List.map_nil, List.length_cons, List.length_nil, List.replicate, List.cons_append, List.nil_append, List.append_nil, List.set_cons_zero, List.set_cons_succ, List.getElem?_cons_zero, List.getElem?_cons_succ, Option.some.injEq, V.ref.injEq, V.int.injEq, V.str.injEq, V.bl.injEq, V.ty.injEq, exists_eq_left', exists_eq_left, exists_and_left, List.cons.injEq, and_true, true_and, sc_ii, sc_ss, sc_bb, sc_ni, sc_in, sc_is, sc_si, sc_nn, decide_true, decide_false, reduceCtorEq, Bool.false_eq_true, if_true, if_false, ite_true, ite_false, exists_const, eq_self, false_and, and_false, or_false, false_or, exists_false, Evl.rLenS, rSum, wipe, tYes, exists_eq, exists_eq', rIxL, rIxT, rIxS, exists_and_right, gt_iff_lt, not_true_eq_false, not_false_eq_true, Bool.not_true, Bool.not_false, decide_eq_true_eq, Nat.reduceSub, Nat.reduceAdd, List.append_assoc, tChain, tDIn, tDNotIn, sDDel, tAug, ipI, rIv_int]
        refine ⟨xs, .inl (sq_l hrl), ?_⟩
        rw [hcl.1, esp]
        refine ⟨by omega, _, sq_l hrl, _, atI_nat ept, _, sq_l hdl1, _, dV e2, rfl, ?_⟩
        have two : (2 : Nat) ≤ sizeLine := by rw [sizeLine_eq]; decide
        by_cases w4 : V.int d2 = V.int 4
        · rw [if_pos w4]
          refine ⟨pt, rfl, _, sq_t hpt, _, rfl, _, rfl, _, sq_l hdl1, _, dV e10, _, rfl, ?_⟩
          try simp (maxSteps := 1000000) only [tSeq, tIfS, tTest, tOp, tUn, tCB, tCons, tNil, tVar, tC, rI0, rI, rU, rEq, rNe, tRet, tRetN, tAsg, gName, gSub, tBM, tBM0, tNext, tB, tNot, tAnd, tOr, tIf, tCall, tDrop, tBreak, tCont, L2.start, tDGet, sDPut, tTup, tLst, tDNewK, tRevL, rCat, rAppend, rPop, rSetL, tAndV, tOrV, tNotV, tSl, tPart, tNoPart, tM1, gTup, gCons, gNil, cxK, cxnK, List.map_cons, List.map_nil, List.length_cons, List.length_nil, List.replicate, List.cons_append, List.nil_append, List.append_nil, List.set_cons_zero, List.set_cons_succ, List.getElem?_cons_zero, List.getElem?_cons_succ, Option.some.injEq, V.ref.injEq, V.int.injEq, V.str.injEq, V.bl.injEq, V.ty.injEq, exists_eq_left', exists_eq_left, exists_and_left, List.cons.injEq, and_true, true_and, sc_ii, sc_ss, sc_bb, sc_ni, sc_in, sc_is, sc_si, sc_nn, decide_true, decide_false, reduceCtorEq, Bool.false_eq_true, if_true, if_false, ite_true, ite_false, exists_const, eq_self, false_and, and_false, or_false, false_or, exists_false, Evl.rLenS, rSum, wipe, tYes, exists_eq, exists_eq', rIxL, rIxT, rIxS, exists_and_right, gt_iff_lt, not_true_eq_false, not_false_eq_true, Bool.not_true, Bool.not_false, decide_eq_true_eq, Nat.reduceSub, Nat.reduceAdd, List.append_assoc, tChain, tDIn, tDNotIn, sDDel, tAug, ipI, rIv_int]
          refine ⟨by decide, _, sq_t hpt, _, rfl, two, fun p np => ?_⟩
          obtain ⟨f1, f2, f3⟩ := fin _ _ p np ⟨Int.emod_nonneg _ (by decide), Int.emod_lt_of_pos _ (by decide)⟩ ⟨c2, c3⟩
          refine ⟨xs, f1, sp, ixN_of (by omega) (by rw [hcl.1]; omega), _, sq_l f2, _, dV e2, rfl, ?_⟩
          rw [if_neg (by rw [w4]; decide)]
          exact f3
        · rw [if_neg w4]
          refine ⟨_, sq_l hdl1, _, dV e2, rfl, ?_⟩
          by_cases w5 : V.int d2 = V.int 5
          · rw [if_pos w5]
            refine ⟨pt, rfl, _, sq_t hpt, _, rfl, _, sq_l hdl1, _, dV e6, ?_⟩
            try simp (maxSteps := 1000000) only [tSeq, tIfS, tTest, tOp, tUn, tCB, tCons, tNil, tVar, tC, rI0, rI, rU, rEq, rNe, tRet, tRetN, tAsg, gName, gSub, tBM, tBM0, tNext, tB, tNot, tAnd, tOr, tIf, tCall, tDrop, tBreak, tCont, L2.start, tDGet, sDPut, tTup, tLst, tDNewK, tRevL, rCat, rAppend, rPop, rSetL, tAndV, tOrV, tNotV, tSl, tPart, tNoPart, tM1, gTup, gCons, gNil, cxK, cxnK, List.map_cons, List.map_nil, List.length_cons, List.length_nil, List.replicate, List.cons_append, List.nil_append, List.append_nil, List.set_cons_zero, List.set_cons_succ, List.getElem?_cons_zero, List.getElem?_cons_succ, Option.some.injEq, V.ref.injEq, V.int.injEq, V.str.injEq, V.bl.injEq, V.ty.injEq, exists_eq_left', exists_eq_left, exists_and_left, List.cons.injEq, and_true, true_and, sc_ii, sc_ss, sc_bb, sc_ni, sc_in, sc_is, sc_si, sc_nn, decide_true, decide_false, reduceCtorEq, Bool.false_eq_true, if_true, if_false, ite_true, ite_false, exists_const, eq_self, false_and, and_false, or_false, false_or, exists_false, Evl.rLenS, rSum, wipe, tYes, exists_eq, exists_eq', rIxL, rIxT, rIxS, exists_and_right, gt_iff_lt, not_true_eq_false, not_false_eq_true, Bool.not_true, Bool.not_false, decide_eq_true_eq, Nat.reduceSub, Nat.reduceAdd, List.append_assoc, tChain, tDIn, tDNotIn, sDDel, tAug, ipI, rIv_int]
            refine ⟨xs, .inl (sq_l hrl), ?_⟩
            rw [hcl.1]
            have M0 : (0 : Int) < ((M.length : Nat) : Int) := by omega
            refine ⟨M0, two, fun p np => ?_⟩
            obtain ⟨f1, f2, f3⟩ := fin _ _ p np ⟨c0, c1⟩ ⟨Int.emod_nonneg d6 (by omega), Int.emod_lt_of_pos d6 M0⟩
            exact ⟨xs, f1, sp, ixN_of (by omega) (by rw [hcl.1]; omega), f3⟩
          · rw [if_neg w5]
            exact q l r s' M.length _ c' _ hl hRw hB sM M1 (by omega) k1
end
end My

set_option Elab.async false
set_option linter.all false
set_option maxRecDepth 100000
set_option maxHeartbeats 4000000
namespace My
open PySem L2 NdefX StX
abbrev s_law : Stmt := top 43
theorem sc_law : FnScope ["_law_script", "_law_d", "_law_seven", "_law_names_here", "_law_rows_here", "_law_start", "_law_second_here", "_law_spot", "_law_last", "_law_begun", "_law_turn", "_law_others", "_law_a", "_law_b", "_law_again", "_law_more", "_law_changed", "_law_other", "_law_way"] ["_law_script"] (defScope s_law) := ⟨rfl, rfl, rfl, by decide +kernel, rfl, by decide +kernel, by decide +kernel⟩
structure BtZ (mg : Str → Option Value) : Prop where
  b_int : mg "int" = none
  b_len : mg "len" = none
  b_range : mg "range" = none
  b_list : mg "list" = none
section
variable {P : Program} {w : World} {K : PySem.W.Frag} {mg : Str → Option Value} {base : Heap}
def spCopy2 : Sp := fun vs H Q _ => ∃ (nl d : Addr) (m : Nat) (zs zs' : List Str) (c : Str → Nat → Int × Int), vs = [.ref nl, .ref d] ∧ H nl = some (.lst (zs'.map V.str)) ∧ zs.Nodup ∧ zs'.Nodup ∧ (∀ z ∈ zs', z ∈ zs) ∧ zs'.length ≤ 20 ∧ RwAt H d zs m c ∧ ∀ (r : Addr) (H' : Hp), H r = none → RwAt H' r zs' m c → Kp [] H H' → Q (.ref r) H'
theorem ok_law_copy2 {f : Addr} {fd : FuncData} (D : Df K mg "_law_copy" s_law_copy ["_law_names_here", "_law_rows_here"] f fd) (T : BtL mg) : FnOk P w K mg base CX0 1 f fd ["_law_names_here", "_law_rows_here"] spCopy2 := by
  refine D.F.ok sc_law_copy (fun vs H Q E h => ?_) (fun cdv A outer s H vs Q E hr h => ?_)
  · obtain ⟨nl, d, m, zs, zs', c, rfl, _⟩ := h
    rfl
  · obtain ⟨nl, d, m, zs0, zs, c, rfl, hn, nd0, nd, sub, z20, hd, q⟩ := h
    have hu := hu_of hr
    refine ⟨_, (pss_cons (ps_set (i := 2) sc_law_copy.nd rfl (Or.inl rfl) pe_dnewK)
      (pss_cons (ps_for PassesOwn.never rfl (pi_list (pv 0)) (pg_name (i := 3) sc_law_copy.nd rfl (Or.inl rfl)) (pss_one (ps_dput hu (pv 2) (pv 3) (pe_callTy call_list_of (by rfl) T.b_list (by decide +kernel) (pa_cons (pe_dget hu (pv 1) (pv 3) (fun _ _ => rfl)) pa_nil)) rfl)))
      (pss_one (ps_ret (pv 2))))), ?_⟩
    try simp (maxSteps := 1000000) only [tSeq, tIfS, tTest, tOp, tUn, tCB, tCons, tNil, tVar, tC, rI0, rI, rU, rEq, rNe, tRet, tRetN, tAsg, gName, gSub, tBM, tBM0, tNext, tB, tNot, tAnd, tOr, tIf, tCall, tDrop, tBreak, tCont, L2.start, tDGet, sDPut, tTup, tLst, tDNewK, tRevL, rCat, rAppend, rPop, rSetL, tAndV, tOrV, tNotV, tSl, tPart, tNoPart, tM1, gTup, gCons, gNil, cxK, cxnK, List.map_cons, List.map_nil, List.length_cons, List.length_nil, List.replicate, List.cons_append, List.nil_append, List.append_nil, List.set_cons_zero, List.set_cons_succ, List.getElem?_cons_zero, List.getElem?_cons_succ, Option.some.injEq, V.ref.injEq, V.int.injEq, V.str.injEq, V.bl.injEq, V.ty.injEq, exists_eq_left', exists_eq_left, exists_and_left, List.cons.injEq, and_true, true_and, sc_ii, sc_ss, sc_bb, sc_ni, sc_in, sc_is, sc_si, sc_nn, decide_true, decide_false, reduceCtorEq, Bool.false_eq_true, if_true, if_false, ite_true, ite_false, exists_const, eq_self, false_and, and_false, or_false, false_or, exists_false, Evl.rLenS, rSum, wipe, tYes, exists_eq, exists_eq', rIxL, rIxT, rIxS, exists_and_right, gt_iff_lt, not_true_eq_false, not_false_eq_true, Bool.not_true, Bool.not_false, decide_eq_true_eq, Nat.reduceSub, Nat.reduceAdd, List.append_assoc, tChain, tDIn, tDNotIn, sDDel, tAug, ipI]
    intro r nr
    have kr : Kp [] H (upd H r (.dK [])) := Kp.new nr
    refine ⟨.ref nl, rfl, nl, rfl, ⟨_, sq_l (kr _ _ not0 hn)⟩, for_list (K := K) (a := nl) (xs := zs.map V.str) (fun i σ H' => ∃ c3, σ = [some (.ref nl), some (.ref d), some (.ref r), c3] ∧ RwAt H' r (zs.take i) m c ∧ Kp [] H H') ⟨none, rfl, ⟨[], upd_same, rfl, fun i z e => by cases e⟩, kr⟩ (fun i σ H' _ h => by obtain ⟨_, _, _, k⟩ := h; exact k.ls not0 (sq_l hn)) ?_ ?_⟩
    · rintro i x σ H1 hx ⟨c3, rfl, hrw, k1⟩
      obtain ⟨z, ez, rfl⟩ : ∃ z, zs[i]? = some z ∧ V.str z = x := by
        rw [List.getElem?_map] at hx
        cases e : zs[i]? with
        | none => rw [e] at hx; cases hx
        | some z => rw [e] at hx; exact ⟨z, rfl, Option.some.inj hx⟩
      obtain ⟨kvs, l, xs, hd1, ev, hl, hc⟩ := (hd.kp k1).get nd0 (sub z (List.mem_of_getElem? ez))
      try simp (maxSteps := 1000000) only [tSeq, tIfS, tTest, tOp, tUn, tCB, tCons, tNil, tVar, tC, rI0, rI, rU, rEq, rNe, tRet, tRetN, tAsg, gName, gSub, tBM, tBM0, tNext, tB, tNot, tAnd, tOr, tIf, tCall, tDrop, tBreak, tCont, L2.start, tDGet, sDPut, tTup, tLst, tDNewK, tRevL, rCat, rAppend, rPop, rSetL, tAndV, tOrV, tNotV, tSl, tPart, tNoPart, tM1, gTup, gCons, gNil, cxK, cxnK, List.map_cons, List.map_nil, List.length_cons, List.length_nil, List.replicate, List.cons_append, List.nil_append, List.append_nil, List.set_cons_zero, List.set_cons_succ, List.getElem?_cons_zero, List.getElem?_cons_succ, Option.some.injEq, V.ref.injEq, V.int.injEq, V.str.injEq, V.bl.injEq, V.ty.injEq, exists_eq_left', exists_eq_left, exists_and_left, List.cons.injEq, and_true, true_and, sc_ii, sc_ss, sc_bb, sc_ni, sc_in, sc_is, sc_si, sc_nn, decide_true, decide_false, reduceCtorEq, Bool.false_eq_true, if_true, if_false, ite_true, ite_false, exists_const, eq_self, false_and, and_false, or_false, false_or, exists_false, Evl.rLenS, rSum, wipe, tYes, exists_eq, exists_eq', rIxL, rIxT, rIxS, exists_and_right, gt_iff_lt, not_true_eq_false, not_false_eq_true, Bool.not_true, Bool.not_false, decide_eq_true_eq, Nat.reduceSub, Nat.reduceAdd, List.append_assoc, tChain, tDIn, tDNotIn, sDDel, tAug, ipI, sDPut]
      refine ⟨.ref l, .inl ⟨kvs, Sum.inr z, .inl hd1, rfl, ev.symm⟩, l, rfl, xs, .inl (sq_l hl), fun p np => ?_⟩
      have kp : Kp [] H1 (upd H1 p (.lst xs)) := Kp.new np
      obtain ⟨kv2, hr7, hl7, hput, hrw7⟩ := hrw.put (z := z) (xs := xs) (c := c) kp (nd_fresh nd ez) upd_same (hc.kp kp)
      refine ⟨_, .inl ⟨kv2, Sum.inr z, hr7, rfl, smallL (by rw [hl7, List.length_take]; omega), rfl⟩, ?_, (k1.trans kp).wr nr⟩
      rw [hput, take_snoc ez]
      exact hrw7
    · rintro σ H1 ⟨c3, rfl, hrw, k1⟩
      rw [List.length_map, List.take_length] at hrw
      try simp (maxSteps := 1000000) only [tSeq, tIfS, tTest, tOp, tUn, tCB, tCons, tNil, tVar, tC, rI0, rI, rU, rEq, rNe, tRet, tRetN, tAsg, gName, gSub, tBM, tBM0, tNext, tB, tNot, tAnd, tOr, tIf, tCall, tDrop, tBreak, tCont, L2.start, tDGet, sDPut, tTup, tLst, tDNewK, tRevL, rCat, rAppend, rPop, rSetL, tAndV, tOrV, tNotV, tSl, tPart, tNoPart, tM1, gTup, gCons, gNil, cxK, cxnK, List.map_cons, List.map_nil, List.length_cons, List.length_nil, List.replicate, List.cons_append, List.nil_append, List.append_nil, List.set_cons_zero, List.set_cons_succ, List.getElem?_cons_zero, List.getElem?_cons_succ, Option.some.injEq, V.ref.injEq, V.int.injEq, V.str.injEq, V.bl.injEq, V.ty.injEq, exists_eq_left', exists_eq_left, exists_and_left, List.cons.injEq, and_true, true_and, sc_ii, sc_ss, sc_bb, sc_ni, sc_in, sc_is, sc_si, sc_nn, decide_true, decide_false, reduceCtorEq, Bool.false_eq_true, if_true, if_false, ite_true, ite_false, exists_const, eq_self, false_and, and_false, or_false, false_or, exists_false, Evl.rLenS, rSum, wipe, tYes, exists_eq, exists_eq', rIxL, rIxT, rIxS, exists_and_right, gt_iff_lt, not_true_eq_false, not_false_eq_true, Bool.not_true, Bool.not_false, decide_eq_true_eq, Nat.reduceSub, Nat.reduceAdd, List.append_assoc, tChain, tDIn, tDNotIn, sDDel, tAug, ipI]
      exact q r H1 nr hrw k1
end

theorem forLst {K : PySem.W.Frag} {ta : TA} {g : TG} {tb : TS} {D : Ends} {σ : L2.St} {H : Hp} (Pa : List V → Hp → Prop) (hta : ∀ R : List V → Hp → Prop, (∀ vs H1, Pa vs H1 → R vs H1) → ta σ H R) (few : ∀ vs H1, Pa vs H1 → vs.length ≤ 1000)
    (loop : ∀ vs H1 p, Pa vs H1 → H1 p = none → tFor (iList K (fun _ H Q => Q (.ref p) H)) g tb D σ (upd H1 p (.lst vs))) : tFor (iList K (tLst ta)) g tb D σ H := by
  unfold tFor iList tLst
  refine hta _ fun vs H1 h => ⟨by have := smallL (n := 1000) (by decide); have := few vs H1 h; omega, fun p np => ?_⟩
  exact loop vs H1 p h np

theorem ixN_m1 {n : Nat} (h : 1 ≤ n) : ixN n (-1) = some (n - 1) := by
  unfold ixN
  rw [if_neg (by decide), if_pos (by omega)]
  congr 1
  omega
structure BtRf (mg : Str → Option Value) : Prop where
  b_len : mg "len" = none
  b_int : mg "int" = none
theorem cut_m1 {ts : List Str} (h : 1 ≤ ts.length) : cutV (ts.map V.str) none (some (-1)) = (ts.take (ts.length - 1)).map V.str := by
  have e : HT.sIx (ts.map V.str).length (ts.map V.str).length (some (-1)) = ts.length - 1 := by
    rw [List.length_map]
    unfold HT.sIx
    simp
    omega
  unfold cutV
  rw [e, ← List.map_drop, ← List.map_take]
  rfl
/-- rows with one more name -/
def cW (c : Str → Nat → Int × Int) (w zl : Str) : Str → Nat → Int × Int := fun z => if z = w then c zl else c z
theorem more_ok {H H2 : Hp} {r l : Addr} {zs ys : List Str} {m : Nat} {c : Str → Nat → Int × Int} {w zl : Str} {xs : List V} (hb : CellB zs m 10 c) (sub : ∀ y ∈ ys, y ∈ zs) (hzl : zl ∈ zs) (hw : w ∉ zs) (h : RwAt H r ys m c) (k : Kp [] H H2) (hl : H2 l = some (.lst xs)) (hc : Cells (c zl) xs m H2) (yl : ys.length ≤ 5) (nr : H r ≠ none) :
    CellB (ys ++ [w]) m 10 (cW c w zl) ∧ ∃ H3, DPut H2 r (.str w) (.ref l) H3 ∧ RwAt H3 r (ys ++ [w]) m (cW c w zl) ∧ ∀ H0, H0 r = none → Kp [] H0 H → Kp [] H0 H3 := by
  have wy : w ∉ ys := fun e => hw (sub _ e)
  have h' : RwAt H r ys m (cW c w zl) := h.congr fun z hz s _ => by
    unfold cW
    rw [if_neg (show ¬ z = w from fun e => wy (e ▸ hz))]
  obtain ⟨kv, hkv, lkv, hR'⟩ := h'.add (z := w) k wy hl (by unfold cW; rw [if_pos rfl]; exact hc)
  refine ⟨fun z hz s hs => ?_, _, .inl ⟨kv, Sum.inr w, hkv, rfl, smallL (by omega), rfl⟩, hR', fun H0 n0 k0 => (k0.trans k).wr n0⟩
  unfold cW
  split
  · exact hb zl hzl s hs
  · rcases List.mem_append.mp hz with hz | hz
    · exact hb z (sub z hz) s hs
    · exact absurd (List.mem_singleton.mp hz) (by assumption)
section
variable {P : Program} {w : World} {K : PySem.W.Frag} {mg : Str → Option Value} {base : Heap}
def spLaw (K : PySem.W.Frag) : Sp := fun vs H Q _ => ∃ (a : Addr) (ns : List Int), vs = [.ref a] ∧ SqL K H a (ns.map V.int) ∧ ns.length ≤ 63 ∧ ∀ H', Kp [] H H' → Q (.bl true) H'
/-- behind the tables -/
structure F16 (H : Hp) (dl fv nl rd ld ol : Addr) (m n s0 t0 : Nat) (zs zs' fs : List Str) (c c' : Str → Nat → Int × Int) (ds : List Int) : Prop where
  hdl : H dl = some (.lst (ds.map V.int))
  hfv : H fv = some (.lst (fs.map V.str))
  hn : H nl = some (.lst (zs.map V.str))
  hrw : RwAt H rd zs m c
  hlw : RwAt H ld zs n c'
  hb : CellB zs m 10 c
  hb' : CellB zs n 10 c'
  hf : ∃ k, 1 ≤ k ∧ k ≤ 6 ∧ zs = fs.take k
  f7 : fs.length = 7
  fnd : fs.Nodup
  fnm : ∀ z ∈ fs, nameS z = true
  m1 : 1 ≤ m
  m100 : m ≤ 100
  n1 : 1 ≤ n
  n100 : n ≤ 100
  s0m : s0 < m
  t0n : t0 < n
theorem F16.kp {H H' : Hp} {dl fv nl rd ld ol : Addr} {m n s0 t0 : Nat} {zs zs' fs : List Str} {c c' : Str → Nat → Int × Int} {ds : List Int} (h : F16 H dl fv nl rd ld ol m n s0 t0 zs zs' fs c c' ds) (k : Kp [] H H') : F16 H' dl fv nl rd ld ol m n s0 t0 zs zs' fs c c' ds :=
  { h with hdl := k _ _ not0 h.hdl, hfv := k _ _ not0 h.hfv, hn := k _ _ not0 h.hn, hrw := h.hrw.kp k, hlw := h.hlw.kp k }
theorem ok_law {f : Addr} {fd : FuncData} (D : Df K mg "law" s_law ["_law_script"] f fd) (T : BtZ mg)
    {TC BT fI : Addr} {fdI : FuncData} (C : TbC K mg TC) (M_Table : Mk K TC fI) (bI_Table : Binds K fdI ["self", "rows", "first"] []) (G_Table_init : FnOk P w K mg base (L2.CX P w) 6 fI fdI ["self", "rows", "first"] (spTI TC BT))
    {g1 : Addr} {gd1 : FuncData} (D_law_draws : Df K mg "_law_draws" s_law_draws ["_law_script", "_law_at", "_law_bounds"] g1 gd1) (G_law_draws : FnOk P w K mg base CX0 2 g1 gd1 ["_law_script", "_law_at", "_law_bounds"] (spDraws K))
    {g2 : Addr} {gd2 : FuncData} (D_law_names : Df K mg "_law_names" s_law_names ["_law_script", "_law_at", "_law_many"] g2 gd2) (G_law_names : FnOk P w K mg base CX0 3 g2 gd2 ["_law_script", "_law_at", "_law_many"] (spNames K))
    {f1 : Addr} {fd1 : FuncData} (D_law_rows : Df K mg "_law_rows" s_law_rows ["_law_script", "_law_at", "_law_names_here", "_law_size", "_law_most"] f1 fd1) (G_law_rows : FnOk P w K mg base CX0 3 f1 fd1 ["_law_script", "_law_at", "_law_names_here", "_law_size", "_law_most"] (spRows K))
    {f2 : Addr} {fd2 : FuncData} (D_law_copy : Df K mg "_law_copy" s_law_copy ["_law_names_here", "_law_rows_here"] f2 fd2) (G_law_copy : FnOk P w K mg base CX0 1 f2 fd2 ["_law_names_here", "_law_rows_here"] spCopy2)
    {f3 : Addr} {fd3 : FuncData} (D_law_second : Df K mg "_law_second" s_law_second ["_law_script", "_law_d", "_law_names_here", "_law_rows_here", "_law_start"] f3 fd3) (G_law_second : FnOk P w K mg base CX0 4 f3 fd3 ["_law_script", "_law_d", "_law_names_here", "_law_rows_here", "_law_start"] (spSecond K))
    {f4 : Addr} {fd4 : FuncData} (D_law_chain : Df K mg "_law_chain" s_law_chain ["_law_names_here", "_law_size", "_law_answer", "_law_spot"] f4 fd4) (G_law_chain : FnOk P w K mg base CX0 1 f4 fd4 ["_law_names_here", "_law_size", "_law_answer", "_law_spot"] spChain)
    {f5 : Addr} {fd5 : FuncData} (D_law_judged : Df K mg "_law_judged" s_law_judged ["_law_a", "_law_b", "_law_rows_here", "_law_last", "_law_start", "_law_names_here"] f5 fd5) (G_law_judged : FnOk P w K mg base CX0 9 f5 fd5 ["_law_a", "_law_b", "_law_rows_here", "_law_last", "_law_start", "_law_names_here"] (spJudged TC))
    {f6 : Addr} {fd6 : FuncData} (D_law_refused : Df K mg "_law_refused" s_law_refused ["_law_way", "_law_one", "_law_two"] f6 fd6) (G_law_refused : FnOk P w K mg base CX0 9 f6 fd6 ["_law_way", "_law_one", "_law_two"] (spRfd TC)) : FnOk P w K mg base CX0 13 f fd ["_law_script"] (spLaw K) := by
  refine D.F.ok sc_law (fun vs H Q E h => ?_) (fun cdv A outer s H vs Q E hr h => ?_)
  · obtain ⟨_, _, rfl, _⟩ := h
    rfl
  · obtain ⟨a, ns, rfl, hS, hl, q⟩ := h
    have hu := hu_of hr
    obtain ⟨t, ht, hq⟩ : ∃ t, PSs (cxOf CX0 P w K mg base ["_law_script", "_law_d", "_law_seven", "_law_names_here", "_law_rows_here", "_law_start", "_law_second_here", "_law_spot", "_law_last", "_law_begun", "_law_turn", "_law_others", "_law_a", "_law_b", "_law_again", "_law_more", "_law_changed", "_law_other", "_law_way"] "law" (defScope s_law) f cdv A outer s H E).nox ((defBody s_law).drop 14) t ∧ ∀ (H9 : Hp) (dl fv nl rd ld ol oa ob : Addr) (m n s0 t0 : Nat) (zs zs' fs : List Str) (c c' : Str → Nat → Int × Int) (ds : List Int) (c0 c6 c7 c9 c10 c14 : Option V), F16 H9 dl fv nl rd ld ol m n s0 t0 zs zs' fs c c' ds → TabIs TC H9 oa zs m (s0 : Nat) c → TabIs TC H9 ob zs' n (t0 : Nat) c' → zs'.Perm zs → Kp [] H H9 → t { nx := fun _ H' => Q .non H', rt := Q } [c0, some (.ref dl), some (.ref fv), some (.ref nl), some (.ref rd), some (.int (s0 : Nat)), c6, c7, some (.ref ld), c9, c10, some (.ref ol), some (.ref oa), some (.ref ob), c14, none, none, none, none] H9 := by
      refine ⟨_, (pss_cons (ps_set (i := 15) sc_law.nd rfl (Or.inl rfl) (pe_call G_law_copy (hr.mono (by decide)) rfl D_law_copy.g D_law_copy.F.kp D_law_copy.b .nil pass0 (pa_cons (pe_slice sl_list (pv 3) (po_some (pe_callTy (T := "int") (r := rIv) call_int1 (by rfl) T.b_int (by decide +kernel) (pa_cons (pe_cmpR op_eq (pe_callB (id := "len") (r := Evl.rLenS K) call_len_seq (by rfl) T.b_len PySem.boot_len (pa_cons (pv 3) pa_nil)) pe_int (nomark _)) pa_nil))) po_none) (pa_cons (pv 4) pa_nil))))
      (pss_cons (ps_dput hu (pv 15) (pe_ix (r := rIxL K) ix_list (pv 2) pe_int (fun _ _ => rfl)) (pe_callTy call_list_of (by rfl) T.b_list (by decide +kernel) (pa_cons (pe_dget hu (pv 4) (pe_ix (r := rIxL K) ix_list (pv 3) (pe_un un_neg pe_int) (fun _ _ => rfl)) (fun _ _ => rfl)) pa_nil)) rfl)
      (pss_cons (ps_set (i := 16) sc_law.nd rfl (Or.inl rfl) (pe_call G_law_copy (hr.mono (by decide)) rfl D_law_copy.g D_law_copy.F.kp D_law_copy.b .nil pass0 (pa_cons (pe_slice sl_list (pv 3) po_none (po_some (pe_un un_neg pe_int))) (pa_cons (pv 4) pa_nil))))
      (pss_cons (ps_dput hu (pv 16) (pe_ix (r := rIxL K) ix_list (pv 2) pe_int (fun _ _ => rfl)) (pe_callTy call_list_of (by rfl) T.b_list (by decide +kernel) (pa_cons (pe_dget hu (pv 4) (pe_ix (r := rIxL K) ix_list (pv 3) (pe_un un_neg pe_int) (fun _ _ => rfl)) (fun _ _ => rfl)) pa_nil)) rfl)
      (pss_cons (ps_for PassesOwn.never rfl (pi_list (pe_lst (pa_cons (pe_make M_Table G_Table_init (hr.mono (by decide)) rfl C.k bI_Table .nil passL (pa_cons (pv 15) (pa_cons (pv 5) pa_nil))) (pa_cons (pe_make M_Table G_Table_init (hr.mono (by decide)) rfl C.k bI_Table .nil passL (pa_cons (pv 16) (pa_cons (pv 5) pa_nil))) pa_nil)))) (pg_name (i := 17) sc_law.nd rfl (Or.inl rfl)) (pss_one (ps_for PassesOwn.never rfl (pi_range1 rfl T.b_range (pa_cons pe_int pa_nil)) (pg_name (i := 18) sc_law.nd rfl (Or.inl rfl)) (pss_one (ps_if (PW.pt (pw_or (pt_not (pt_val (pe_call G_law_refused (hr.mono (by decide)) rfl D_law_refused.g D_law_refused.F.kp D_law_refused.b .nil pass0 (pa_cons (pv 18) (pa_cons (pv 12) (pa_cons (pv 17) pa_nil)))))) (pw_or1 (pt_not (pt_val (pe_call G_law_refused (hr.mono (by decide)) rfl D_law_refused.g D_law_refused.F.kp D_law_refused.b .nil pass0 (pa_cons (pv 18) (pa_cons (pv 17) (pa_cons (pv 13) pa_nil))))))))) (pss_one (ps_ret pe_bl)) pss_nil)))))
      (pss_one (ps_ret pe_bl))))))), ?_⟩
      intro H1 dl fv nl rd ld ol oa ob m n s0 t0 zs zs' fs c c' ds c0 c6 c7 c9 c10 c14 F hA hB pm k1
      try simp (maxSteps := 1000000) only [tSeq, tIfS, tTest, tOp, tUn, tCB, tCons, tNil, tVar, tC, rI0, rI, rU, rEq, rNe, tRet, tRetN, tAsg, gName, gSub, tBM, tBM0, tNext, tB, tNot, tAnd, tOr, tIf, tCall, tDrop, tBreak, tCont, L2.start, tDGet, sDPut, tTup, tLst, tDNewK, tRevL, rCat, rAppend, rPop, rSetL, tAndV, tOrV, tNotV, tSl, tPart, tNoPart, tM1, gTup, gCons, gNil, cxK, cxnK, List.map_cons, List.map_nil, List.length_cons, List.length_nil, List.replicate, List.cons_append, List.nil_append, List.append_nil, List.set_cons_zero, List.set_cons_succ, List.getElem?_cons_zero, List.getElem?_cons_succ, Option.some.injEq, V.ref.injEq, V.int.injEq, V.str.injEq, V.bl.injEq, V.ty.injEq, exists_eq_left', exists_eq_left, exists_and_left, List.cons.injEq, and_true, true_and, sc_ii, sc_ss, sc_bb, sc_ni, sc_in, sc_is, sc_si, sc_nn, decide_true, decide_false, reduceCtorEq, Bool.false_eq_true, if_true, if_false, ite_true, ite_false, exists_const, eq_self, false_and, and_false, or_false, false_or, exists_false, Evl.rLenS, rSum, wipe, tYes, exists_eq, exists_eq', rIxL, rIxT, rIxS, exists_and_right, gt_iff_lt, not_true_eq_false, not_false_eq_true, Bool.not_true, Bool.not_false, decide_eq_true_eq, Nat.reduceSub, Nat.reduceAdd, List.append_assoc, tChain, tDIn, tDNotIn, sDDel, tAug, ipI, tMake, rIv_bl]
      obtain ⟨kz, kz1, kz6, ezs⟩ := F.hf
      have zl : zs.length = kz := by rw [ezs, List.length_take, F.f7]; omega
      have zne : zs ≠ [] := fun e => by rw [e] at zl; simp at zl; omega
      have nd : zs.Nodup := by rw [ezs]; exact F.fnd.sublist (List.take_sublist _ _)
      have nm : ∀ z ∈ zs, nameS z = true := fun z hz => F.fnm z (by rw [ezs] at hz; exact List.mem_of_mem_take hz)
      obtain ⟨wn', ew⟩ : ∃ z, fs[6]? = some z := ⟨_, List.getElem?_eq_getElem (by rw [F.f7]; decide)⟩
      have wm := List.mem_of_getElem? ew
      have wn : nameS wn' = true := F.fnm _ wm
      have wz : wn' ∉ zs := fun h => by
        rw [ezs] at h
        exact nd_fresh F.fnd ew (List.take_subset_take_left fs kz6 h)
      have aw : atI (fs.map V.str) 6 = some (.str wn') := atI_of (by decide) (by rw [List.getElem?_map]; exact congrArg (Option.map V.str) ew)
      obtain ⟨zl', el⟩ : ∃ z, zs[kz - 1]? = some z := ⟨_, List.getElem?_eq_getElem (by omega)⟩
      have hzl := List.mem_of_getElem? el
      have al : atI (zs.map V.str) (-1) = some (.str zl') := by
        unfold atI
        rw [List.length_map, ixN_m1 (by omega), zl]
        show (zs.map V.str)[kz - 1]? = _
        rw [List.getElem?_map, el]; rfl
      obtain ⟨k0, ek0, hk0⟩ : ∃ k0 : Nat, (if ((zs.length : Nat) : Int) = 6 then (1 : Int) else 0) = (k0 : Nat) ∧ k0 ≤ 1 ∧ kz - k0 ≤ 5 := by
        by_cases h : ((zs.length : Nat) : Int) = 6
        · exact ⟨1, by rw [if_pos h]; rfl, Nat.le_refl _, by omega⟩
        · exact ⟨0, by rw [if_neg h]; rfl, by decide, by omega⟩
      have subD : ∀ y ∈ zs.drop k0, y ∈ zs := fun y hy => List.mem_of_mem_drop hy
      have subT : ∀ y ∈ zs.take (kz - 1), y ∈ zs := fun y hy => List.mem_of_mem_take hy
      refine ⟨_, .inl (sq_l F.hn), ?_⟩
      rw [List.length_map, ek0]
      refine ⟨nl, _, rfl, sq_l F.hn, fun pa npa => ?_⟩
      rw [cut_i]
      have ka := (Kp.new npa : Kp [] H1 (upd H1 pa (.lst ((zs.drop k0).map V.str))))
      have ha : (upd H1 pa (.lst ((zs.drop k0).map V.str))) pa = some (.lst ((zs.drop k0).map V.str)) := upd_same
      generalize upd H1 pa (.lst ((zs.drop k0).map V.str)) = H2 at ka ha ⊢
      have F2 := F.kp ka
      refine ⟨pa, rd, m, zs, zs.drop k0, c, rfl, ha, nd, nd.sublist (List.drop_sublist _ _), subD, by rw [List.length_drop]; omega, F2.hrw, fun r1 H3 nr1 hr1 k3 => ?_⟩
      dsimp only
      have F3 := F2.kp k3
      obtain ⟨kv, l1, x1, hd1, ev1, hl1, hc1⟩ := F3.hrw.get nd hzl
      refine ⟨_, sq_l F3.hn, _, al, _, ev1 ▸ DGet.k (k := Sum.inr zl') hd1, l1, rfl, x1, .inl (sq_l hl1), fun lc nlc => ?_⟩
      have kc := (Kp.new nlc : Kp [] H3 (upd H3 lc (.lst x1)))
      have hlc : (upd H3 lc (.lst x1)) lc = some (.lst x1) := upd_same
      generalize upd H3 lc (.lst x1) = H4 at kc hlc ⊢
      obtain ⟨cb1, H5, dp1, hR1, kp1⟩ := more_ok (H2 := H4) F.hb subD hzl wz hr1 kc hlc (hc1.kp kc) (by rw [List.length_drop]; omega) (fun e => by obtain ⟨kv, hd, _⟩ := hr1; rw [hd] at e; cases e)
      have k25 := kp1 H2 nr1 k3
      have k15 := ka.trans k25
      have F5 := F.kp k15
      refine ⟨_, sq_l (F3.kp kc).hfv, _, aw, r1, rfl, _, dp1, ?_⟩
      refine ⟨nl, _, rfl, sq_l F5.hn, fun pb npb => ?_⟩
      rw [cut_m1 (by omega), zl]
      have kb := (Kp.new npb : Kp [] H5 (upd H5 pb (.lst ((zs.take (kz - 1)).map V.str))))
      have hpb : (upd H5 pb (.lst ((zs.take (kz - 1)).map V.str))) pb = some (.lst ((zs.take (kz - 1)).map V.str)) := upd_same
      generalize upd H5 pb (.lst ((zs.take (kz - 1)).map V.str)) = H6 at kb hpb ⊢
      have F6 := F5.kp kb
      dsimp only
      refine ⟨pb, rd, m, zs, zs.take (kz - 1), c, rfl, hpb, nd, nd.sublist (List.take_sublist _ _), subT, by rw [List.length_take]; omega, F6.hrw, fun r2 H7 nr2 hr2 k7 => ?_⟩
      dsimp only
      have F7 := F6.kp k7
      obtain ⟨kv2, l2, x2, hd2, ev2, hl2, hc2⟩ := F7.hrw.get nd hzl
      refine ⟨_, sq_l F7.hn, _, al, _, ev2 ▸ DGet.k (k := Sum.inr zl') hd2, l2, rfl, x2, .inl (sq_l hl2), fun ld2 nld2 => ?_⟩
      have kd := (Kp.new nld2 : Kp [] H7 (upd H7 ld2 (.lst x2)))
      have hld2 : (upd H7 ld2 (.lst x2)) ld2 = some (.lst x2) := upd_same
      generalize upd H7 ld2 (.lst x2) = H8 at kd hld2 ⊢
      obtain ⟨cb2, H9, dp2, hR2, kp2⟩ := more_ok (H2 := H8) F.hb subT hzl wz hr2 kd hld2 (hc2.kp kd) (by rw [List.length_take]; omega) (fun e => by obtain ⟨kv, hd, _⟩ := hr2; rw [hd] at e; cases e)
      have k69 := kp2 H6 nr2 k7
      have k59 := kb.trans k69
      have k19 := k15.trans k59
      have F9 := F.kp k19
      refine ⟨_, sq_l (F7.kp kd).hfv, _, aw, r2, rfl, _, dp2, ?_⟩
      have hR1' := hR1.kp k59
      have nd1 : (zs.drop k0 ++ [wn']).Nodup := List.nodup_append.mpr ⟨nd.sublist (List.drop_sublist _ _), by simp, fun a ha b hb e => wz (by rw [← List.mem_singleton.mp hb, ← e]; exact subD _ ha)⟩
      have nd2 : (zs.take (kz - 1) ++ [wn']).Nodup := List.nodup_append.mpr ⟨nd.sublist (List.take_sublist _ _), by simp, fun a ha b hb e => wz (by rw [← List.mem_singleton.mp hb, ← e]; exact subT _ ha)⟩
      have nm' : ∀ ys : List Str, (∀ y ∈ ys, y ∈ zs) → ∀ z ∈ ys ++ [wn'], nameS z = true := fun ys sub z hz => by
        rcases List.mem_append.mp hz with hz | hz
        · exact nm z (sub z hz)
        · rw [List.mem_singleton.mp hz]; exact wn
      have np1 : ∀ ys : List Str, ¬ (ys ++ [wn']).Perm zs := fun ys p => wz (p.mem_iff.mp (List.mem_append_right _ List.mem_cons_self))
      have np2 : ∀ ys : List Str, ¬ zs'.Perm (ys ++ [wn']) := fun ys p => wz (pm.mem_iff.mp (p.mem_iff.mpr (List.mem_append_right _ List.mem_cons_self)))
      refine forLst (fun vs HA => ∃ o1 o2 ys1 ys2, vs = [.ref o1, .ref o2] ∧ TabIs TC HA o1 (ys1 ++ [wn']) m (s0 : Nat) (cW c wn' zl') ∧ TabIs TC HA o2 (ys2 ++ [wn']) m (s0 : Nat) (cW c wn' zl') ∧ Kp [] H9 HA) (fun R hR => ?_) (fun vs H1 h => by obtain ⟨_, _, _, _, rfl, _⟩ := h; exact (show (2 : Nat) ≤ 1000 by decide)) fun vs HA pl ⟨o1, o2, ys1, ys2, ev, hT1, hT2, kA⟩ npl => ?_
      · try simp (maxSteps := 1000000) only [tSeq, tIfS, tTest, tOp, tUn, tCB, tCons, tNil, tVar, tC, rI0, rI, rU, rEq, rNe, tRet, tRetN, tAsg, gName, gSub, tBM, tBM0, tNext, tB, tNot, tAnd, tOr, tIf, tCall, tDrop, tBreak, tCont, L2.start, tDGet, sDPut, tTup, tLst, tDNewK, tRevL, rCat, rAppend, rPop, rSetL, tAndV, tOrV, tNotV, tSl, tPart, tNoPart, tM1, gTup, gCons, gNil, cxK, cxnK, List.map_cons, List.map_nil, List.length_cons, List.length_nil, List.replicate, List.cons_append, List.nil_append, List.append_nil, List.set_cons_zero, List.set_cons_succ, List.getElem?_cons_zero, List.getElem?_cons_succ, Option.some.injEq, V.ref.injEq, V.int.injEq, V.str.injEq, V.bl.injEq, V.ty.injEq, exists_eq_left', exists_eq_left, exists_and_left, List.cons.injEq, and_true, true_and, sc_ii, sc_ss, sc_bb, sc_ni, sc_in, sc_is, sc_si, sc_nn, decide_true, decide_false, reduceCtorEq, Bool.false_eq_true, if_true, if_false, ite_true, ite_false, exists_const, eq_self, false_and, and_false, or_false, false_or, exists_false, Evl.rLenS, rSum, wipe, tYes, exists_eq, exists_eq', rIxL, rIxT, rIxS, exists_and_right, gt_iff_lt, not_true_eq_false, not_false_eq_true, Bool.not_true, Bool.not_false, decide_eq_true_eq, Nat.reduceSub, Nat.reduceAdd, List.append_assoc, tChain, tDIn, tDNotIn, sDDel, tAug, ipI, tMake]
        intro ta da nta nda nea
        refine mk_tab hR1' cb1 nd1 (by simp) (by rw [List.length_append, List.length_drop, List.length_singleton]; omega) (nm' _ subD) F.m1 F.m100 (by omega) (by have := F.s0m; omega) nta nda nea.symm fun HA hTa kA => ⟨rfl, ?_⟩
        intro tb db ntb ndb neb
        refine mk_tab (hR2.kp kA) cb2 nd2 (by simp) (by rw [List.length_append, List.length_take, List.length_singleton]; omega) (nm' _ subT) F.m1 F.m100 (by omega) (by have := F.s0m; omega) ntb ndb neb.symm fun HB hTb kB => ⟨rfl, ?_⟩
        exact hR _ _ ⟨ta, tb, _, _, rfl, hTa.kp kB, hTb, kA.trans kB⟩
      · subst ev
        have kl := (Kp.new npl : Kp [] HA (upd HA pl (.lst [.ref o1, .ref o2])))
        have hpl : (upd HA pl (.lst [.ref o1, .ref o2])) pl = some (.lst [.ref o1, .ref o2]) := upd_same
        have hT1 := hT1.kp kl
        have hT2 := hT2.kp kl
        have k1l := (k19.trans kA).trans kl
        have hA' := hA.kp k1l
        have hB' := hB.kp k1l
        generalize upd HA pl (.lst [.ref o1, .ref o2]) = HB at *
        refine ⟨pl, rfl, ⟨_, sq_l hpl⟩, for_list (K := K) (a := pl) (xs := [.ref o1, .ref o2]) (fun i σ H' => (∃ c17 c18, σ = [c0, some (.ref dl), some (.ref fv), some (.ref nl), some (.ref rd), some (.int (s0 : Nat)), c6, c7, some (.ref ld), c9, c10, some (.ref ol), some (.ref oa), some (.ref ob), c14, some (.ref r1), some (.ref r2), c17, c18]) ∧ Kp [] HB H') ⟨⟨_, _, rfl⟩, Kp.refl _ _⟩ (fun i σ H' _ h => sq_l (h.2 _ _ not0 hpl)) ?_ ?_⟩
        · rintro i v σ HC hv ⟨⟨c17, c18, rfl⟩, kC⟩
          obtain ⟨o, ys, rfl, hTo⟩ : ∃ o ys, v = .ref o ∧ TabIs TC HB o (ys ++ [wn']) m (s0 : Nat) (cW c wn' zl') := by
            match i, hv with
            | 0, hv => cases hv; exact ⟨_, _, rfl, hT1⟩
            | 1, hv => cases hv; exact ⟨_, _, rfl, hT2⟩
            | n + 2, hv => simp at hv
          try simp (maxSteps := 1000000) only [tSeq, tIfS, tTest, tOp, tUn, tCB, tCons, tNil, tVar, tC, rI0, rI, rU, rEq, rNe, tRet, tRetN, tAsg, gName, gSub, tBM, tBM0, tNext, tB, tNot, tAnd, tOr, tIf, tCall, tDrop, tBreak, tCont, L2.start, tDGet, sDPut, tTup, tLst, tDNewK, tRevL, rCat, rAppend, rPop, rSetL, tAndV, tOrV, tNotV, tSl, tPart, tNoPart, tM1, gTup, gCons, gNil, cxK, cxnK, List.map_cons, List.map_nil, List.length_cons, List.length_nil, List.replicate, List.cons_append, List.nil_append, List.append_nil, List.set_cons_zero, List.set_cons_succ, List.getElem?_cons_zero, List.getElem?_cons_succ, Option.some.injEq, V.ref.injEq, V.int.injEq, V.str.injEq, V.bl.injEq, V.ty.injEq, exists_eq_left', exists_eq_left, exists_and_left, List.cons.injEq, and_true, true_and, sc_ii, sc_ss, sc_bb, sc_ni, sc_in, sc_is, sc_si, sc_nn, decide_true, decide_false, reduceCtorEq, Bool.false_eq_true, if_true, if_false, ite_true, ite_false, exists_const, eq_self, false_and, and_false, or_false, false_or, exists_false, Evl.rLenS, rSum, wipe, tYes, exists_eq, exists_eq', rIxL, rIxT, rIxS, exists_and_right, gt_iff_lt, not_true_eq_false, not_false_eq_true, Bool.not_true, Bool.not_false, decide_eq_true_eq, Nat.reduceSub, Nat.reduceAdd, List.append_assoc, tChain, tDIn, tDNotIn, sDDel, tAug, ipI]
          refine forRg 3 (fun j σ H' => (∃ c18, σ = [c0, some (.ref dl), some (.ref fv), some (.ref nl), some (.ref rd), some (.int (s0 : Nat)), c6, c7, some (.ref ld), c9, c10, some (.ref ol), some (.ref oa), some (.ref ob), c14, some (.ref r1), some (.ref r2), some (.ref o), c18]) ∧ Kp [] HB H') (fun R q' => q') (by decide) (by decide) ⟨⟨_, rfl⟩, kC⟩ ?_ ?_
          · rintro j σ HD hj ⟨⟨c18, rfl⟩, kD⟩
            try simp (maxSteps := 1000000) only [tSeq, tIfS, tTest, tOp, tUn, tCB, tCons, tNil, tVar, tC, rI0, rI, rU, rEq, rNe, tRet, tRetN, tAsg, gName, gSub, tBM, tBM0, tNext, tB, tNot, tAnd, tOr, tIf, tCall, tDrop, tBreak, tCont, L2.start, tDGet, sDPut, tTup, tLst, tDNewK, tRevL, rCat, rAppend, rPop, rSetL, tAndV, tOrV, tNotV, tSl, tPart, tNoPart, tM1, gTup, gCons, gNil, cxK, cxnK, List.map_cons, List.map_nil, List.length_cons, List.length_nil, List.replicate, List.cons_append, List.nil_append, List.append_nil, List.set_cons_zero, List.set_cons_succ, List.getElem?_cons_zero, List.getElem?_cons_succ, Option.some.injEq, V.ref.injEq, V.int.injEq, V.str.injEq, V.bl.injEq, V.ty.injEq, exists_eq_left', exists_eq_left, exists_and_left, List.cons.injEq, and_true, true_and, sc_ii, sc_ss, sc_bb, sc_ni, sc_in, sc_is, sc_si, sc_nn, decide_true, decide_false, reduceCtorEq, Bool.false_eq_true, if_true, if_false, ite_true, ite_false, exists_const, eq_self, false_and, and_false, or_false, false_or, exists_false, Evl.rLenS, rSum, wipe, tYes, exists_eq, exists_eq', rIxL, rIxT, rIxS, exists_and_right, gt_iff_lt, not_true_eq_false, not_false_eq_true, Bool.not_true, Bool.not_false, decide_eq_true_eq, Nat.reduceSub, Nat.reduceAdd, List.append_assoc, tChain, tDIn, tDNotIn, sDDel, tAug, ipI]
            refine ⟨(j : Nat), oa, o, m, m, s0, s0, zs, _, c, _, rfl, hA'.kp kD, hTo.kp kD, np1 _, fun HE kE => ⟨true, rfl, ?_⟩⟩
            rw [if_neg (by decide)]
            exact ⟨(j : Nat), o, ob, m, n, s0, t0, _, zs', _, c', rfl, (hTo.kp kD).kp kE, (hB'.kp kD).kp kE, np2 _, fun HF kF => ⟨true, rfl, by
              rw [if_neg (by decide)]
              exact (kD.trans kE).trans kF⟩⟩
          · rintro σ HD ⟨⟨c18, rfl⟩, kD⟩
            exact ⟨⟨_, _, rfl⟩, kD⟩
        · rintro σ HD ⟨⟨c17, c18, rfl⟩, kD⟩
          try simp (maxSteps := 1000000) only [tSeq, tIfS, tTest, tOp, tUn, tCB, tCons, tNil, tVar, tC, rI0, rI, rU, rEq, rNe, tRet, tRetN, tAsg, gName, gSub, tBM, tBM0, tNext, tB, tNot, tAnd, tOr, tIf, tCall, tDrop, tBreak, tCont, L2.start, tDGet, sDPut, tTup, tLst, tDNewK, tRevL, rCat, rAppend, rPop, rSetL, tAndV, tOrV, tNotV, tSl, tPart, tNoPart, tM1, gTup, gCons, gNil, cxK, cxnK, List.map_cons, List.map_nil, List.length_cons, List.length_nil, List.replicate, List.cons_append, List.nil_append, List.append_nil, List.set_cons_zero, List.set_cons_succ, List.getElem?_cons_zero, List.getElem?_cons_succ, Option.some.injEq, V.ref.injEq, V.int.injEq, V.str.injEq, V.bl.injEq, V.ty.injEq, exists_eq_left', exists_eq_left, exists_and_left, List.cons.injEq, and_true, true_and, sc_ii, sc_ss, sc_bb, sc_ni, sc_in, sc_is, sc_si, sc_nn, decide_true, decide_false, reduceCtorEq, Bool.false_eq_true, if_true, if_false, ite_true, ite_false, exists_const, eq_self, false_and, and_false, or_false, false_or, exists_false, Evl.rLenS, rSum, wipe, tYes, exists_eq, exists_eq', rIxL, rIxT, rIxS, exists_and_right, gt_iff_lt, not_true_eq_false, not_false_eq_true, Bool.not_true, Bool.not_false, decide_eq_true_eq, Nat.reduceSub, Nat.reduceAdd, List.append_assoc, tChain, tDIn, tDNotIn, sDDel, tAug, ipI]
          exact q _ ((k1.trans k1l).trans kD)
    obtain ⟨t2, ht2, hq2⟩ : ∃ t2, PSs (cxOf CX0 P w K mg base ["_law_script", "_law_d", "_law_seven", "_law_names_here", "_law_rows_here", "_law_start", "_law_second_here", "_law_spot", "_law_last", "_law_begun", "_law_turn", "_law_others", "_law_a", "_law_b", "_law_again", "_law_more", "_law_changed", "_law_other", "_law_way"] "law" (defScope s_law) f cdv A outer s H E).nox ((defBody s_law).drop 7) t2 ∧ ∀ (H9 : Hp) (dl fv nl rd ld sl : Addr) (m n s0 t0 : Nat) (zs fs : List Str) (c c' : Str → Nat → Int × Int) (ds : List Int) (xs : List V) (d5 : Int) (c0 c7 : Option V), F16 H9 dl fv nl rd ld nl m n s0 t0 zs zs fs c c' ds → H9 sl = some (.lst (.ref ld :: .int (t0 : Nat) :: xs)) → ds[5]? = some d5 → Kp [] H H9 → t2 { nx := fun _ H' => Q .non H', rt := Q } [c0, some (.ref dl), some (.ref fv), some (.ref nl), some (.ref rd), some (.int (s0 : Nat)), some (.ref sl), c7, none, none, none, none, none, none, none, none, none, none, none] H9 := by
      refine ⟨_, (pss_cons (ps_set (i := 8) sc_law.nd rfl (Or.inl rfl) (pe_ix (r := rIxL K) ix_list (pv 6) pe_int (fun _ _ => rfl)))
      (pss_cons (ps_set (i := 9) sc_law.nd rfl (Or.inl rfl) (pe_ix (r := rIxL K) ix_list (pv 6) pe_int (fun _ _ => rfl)))
      (pss_cons (ps_set (i := 10) sc_law.nd rfl (Or.inl rfl) (pe_op op_mod (pe_callTy (T := "int") (r := rIv) call_int1 (by rfl) T.b_int (by decide +kernel) (pa_cons (pe_ix (r := rIxL K) ix_list (pv 1) pe_int (fun _ _ => rfl)) pa_nil)) (pe_callB (id := "len") (r := Evl.rLenS K) call_len_seq (by rfl) T.b_len PySem.boot_len (pa_cons (pv 3) pa_nil))))
      (pss_cons (ps_set (i := 11) sc_law.nd rfl (Or.inl rfl) (pe_op op_cat (pe_slice sl_list (pv 3) (po_some (pv 10)) po_none) (pe_slice sl_list (pv 3) po_none (po_some (pv 10)))))
      (pss_cons (ps_set (i := 12) sc_law.nd rfl (Or.inl rfl) (pe_make M_Table G_Table_init (hr.mono (by decide)) rfl C.k bI_Table .nil passL (pa_cons (pe_call G_law_copy (hr.mono (by decide)) rfl D_law_copy.g D_law_copy.F.kp D_law_copy.b .nil pass0 (pa_cons (pv 3) (pa_cons (pv 4) pa_nil))) (pa_cons (pv 5) pa_nil))))
      (pss_cons (ps_set (i := 13) sc_law.nd rfl (Or.inl rfl) (pe_make M_Table G_Table_init (hr.mono (by decide)) rfl C.k bI_Table .nil passL (pa_cons (pe_call G_law_copy (hr.mono (by decide)) rfl D_law_copy.g D_law_copy.F.kp D_law_copy.b .nil pass0 (pa_cons (pv 11) (pa_cons (pv 8) pa_nil))) (pa_cons (pv 9) pa_nil))))
      (pss_cons (ps_for PassesOwn.never rfl (pi_range1 rfl T.b_range (pa_cons pe_int pa_nil)) (pg_name (i := 14) sc_law.nd rfl (Or.inl rfl)) (pss_cons (ps_if (pt_not (pt_val (pe_call G_law_judged (hr.mono (by decide)) rfl D_law_judged.g D_law_judged.F.kp D_law_judged.b .nil pass0 (pa_cons (pv 12) (pa_cons (pv 13) (pa_cons (pv 4) (pa_cons (pv 8) (pa_cons (pe_tup (pa_cons (pv 5) (pa_cons (pv 9) pa_nil))) (pa_cons (pv 3) pa_nil))))))))) (pss_one (ps_ret pe_bl)) pss_nil)
      (pss_cons (ps_if (pt_not (pt_val (pe_call G_law_judged (hr.mono (by decide)) rfl D_law_judged.g D_law_judged.F.kp D_law_judged.b .nil pass0 (pa_cons (pv 13) (pa_cons (pv 12) (pa_cons (pv 8) (pa_cons (pv 4) (pa_cons (pe_tup (pa_cons (pv 9) (pa_cons (pv 5) pa_nil))) (pa_cons (pv 11) pa_nil))))))))) (pss_one (ps_ret pe_bl)) pss_nil)
      (pss_one (ps_if (pt_not (pt_val (pe_call G_law_judged (hr.mono (by decide)) rfl D_law_judged.g D_law_judged.F.kp D_law_judged.b .nil pass0 (pa_cons (pv 12) (pa_cons (pv 12) (pa_cons (pv 4) (pa_cons (pv 4) (pa_cons (pe_tup (pa_cons (pv 5) (pa_cons (pv 5) pa_nil))) (pa_cons (pv 3) pa_nil))))))))) (pss_one (ps_ret pe_bl)) pss_nil)))))
      ht))))))), ?_⟩
      intro H1 dl fv nl rd ld sl m n s0 t0 zs fs c c' ds xs d5 c0 c7 F hsl e5 k1
      have dV : ∀ {i : Nat} {v : Int}, ds[i]? = some v → atI (ds.map V.int) ((i : Nat) : Int) = some (.int v) := fun {i v} e => atI_nat (by rw [List.getElem?_map, e]; rfl)
      obtain ⟨kz, kz1, kz6, ezs⟩ := F.hf
      have zl : zs.length = kz := by rw [ezs, List.length_take, F.f7]; omega
      have zne : zs ≠ [] := fun e => by rw [e] at zl; simp at zl; omega
      have nd : zs.Nodup := by rw [ezs]; exact F.fnd.sublist (List.take_sublist _ _)
      have nm : ∀ z ∈ zs, nameS z = true := fun z hz => F.fnm z (by rw [ezs] at hz; exact List.mem_of_mem_take hz)
      try simp (maxSteps := 1000000) only [tSeq, tIfS, tTest, tOp, tUn, tCB, tCons, tNil, tVar, tC, rI0, rI, rU, rEq, rNe, tRet, tRetN, tAsg, gName, gSub, tBM, tBM0, tNext, tB, tNot, tAnd, tOr, tIf, tCall, tDrop, tBreak, tCont, L2.start, tDGet, sDPut, tTup, tLst, tDNewK, tRevL, rCat, rAppend, rPop, rSetL, tAndV, tOrV, tNotV, tSl, tPart, tNoPart, tM1, gTup, gCons, gNil, cxK, cxnK, List.map_cons, List.map_nil, List.length_cons, List.length_nil, List.replicate, List.cons_append, List.nil_append, List.append_nil, List.set_cons_zero, List.set_cons_succ, List.getElem?_cons_zero, List.getElem?_cons_succ, Option.some.injEq, V.ref.injEq, V.int.injEq, V.str.injEq, V.bl.injEq, V.ty.injEq, exists_eq_left', exists_eq_left, exists_and_left, List.cons.injEq, and_true, true_and, sc_ii, sc_ss, sc_bb, sc_ni, sc_in, sc_is, sc_si, sc_nn, decide_true, decide_false, reduceCtorEq, Bool.false_eq_true, if_true, if_false, ite_true, ite_false, exists_const, eq_self, false_and, and_false, or_false, false_or, exists_false, Evl.rLenS, rSum, wipe, tYes, exists_eq, exists_eq', rIxL, rIxT, rIxS, exists_and_right, gt_iff_lt, not_true_eq_false, not_false_eq_true, Bool.not_true, Bool.not_false, decide_eq_true_eq, Nat.reduceSub, Nat.reduceAdd, List.append_assoc, tChain, tDIn, tDNotIn, sDDel, tAug, ipI, tMake, rIv_int]
      have zpos : 0 < zs.length := List.length_pos_iff.mpr zne
      have hn := F.hn
      refine ⟨_, sq_l hsl, .ref ld, atI_of (by decide) rfl, _, sq_l hsl, .int (t0 : Nat), atI_of (by decide) rfl, _, sq_l F.hdl, _, dV e5, ?_⟩
      try simp (maxSteps := 1000000) only [tSeq, tIfS, tTest, tOp, tUn, tCB, tCons, tNil, tVar, tC, rI0, rI, rU, rEq, rNe, tRet, tRetN, tAsg, gName, gSub, tBM, tBM0, tNext, tB, tNot, tAnd, tOr, tIf, tCall, tDrop, tBreak, tCont, L2.start, tDGet, sDPut, tTup, tLst, tDNewK, tRevL, rCat, rAppend, rPop, rSetL, tAndV, tOrV, tNotV, tSl, tPart, tNoPart, tM1, gTup, gCons, gNil, cxK, cxnK, List.map_cons, List.map_nil, List.length_cons, List.length_nil, List.replicate, List.cons_append, List.nil_append, List.append_nil, List.set_cons_zero, List.set_cons_succ, List.getElem?_cons_zero, List.getElem?_cons_succ, Option.some.injEq, V.ref.injEq, V.int.injEq, V.str.injEq, V.bl.injEq, V.ty.injEq, exists_eq_left', exists_eq_left, exists_and_left, List.cons.injEq, and_true, true_and, sc_ii, sc_ss, sc_bb, sc_ni, sc_in, sc_is, sc_si, sc_nn, decide_true, decide_false, reduceCtorEq, Bool.false_eq_true, if_true, if_false, ite_true, ite_false, exists_const, eq_self, false_and, and_false, or_false, false_or, exists_false, Evl.rLenS, rSum, wipe, tYes, exists_eq, exists_eq', rIxL, rIxT, rIxS, exists_and_right, gt_iff_lt, not_true_eq_false, not_false_eq_true, Bool.not_true, Bool.not_false, decide_eq_true_eq, Nat.reduceSub, Nat.reduceAdd, List.append_assoc, tChain, tDIn, tDNotIn, sDDel, tAug, ipI, tMake, rIv_int]
      refine ⟨_, .inl (sq_l hn), ?_⟩
      rw [List.length_map]
      have q0 := Int.emod_nonneg d5 (show ((zs.length : Nat) : Int) ≠ 0 by omega)
      have q1 := Int.emod_lt_of_pos d5 (show (0 : Int) < (zs.length : Nat) by omega)
      obtain ⟨tt, ett⟩ : ∃ tt : Nat, d5 % ((zs.length : Nat) : Int) = (tt : Nat) := ⟨(d5 % ((zs.length : Nat) : Int)).toNat, by omega⟩
      rw [ett] at q0 q1 ⊢
      refine ⟨by omega, nl, _, rfl, sq_l hn, fun pa npa => ?_⟩
      rw [cut_i]
      have ka := (Kp.new npa : Kp [] H1 (upd H1 pa (.lst ((zs.drop tt).map V.str))))
      refine ⟨nl, _, rfl, sq_l (ka _ _ not0 hn), fun pb npb => ?_⟩
      rw [cut_0j]
      have kb := (Kp.new npb : Kp [] _ (upd (upd H1 pa (.lst ((zs.drop tt).map V.str))) pb (.lst ((zs.take tt).map V.str))))
      refine ⟨pa, rfl, pb, rfl, _, kb _ _ not0 upd_same, _, upd_same, by rw [List.length_map, List.length_map, List.length_drop, List.length_take, sizeLine_eq]; omega, fun po npo => ?_⟩
      have k3 := (ka.trans kb).trans (Kp.new npo (o := .lst ((zs.drop tt).map V.str ++ (zs.take tt).map V.str)))
      have hpo : (upd (upd (upd H1 pa (.lst ((zs.drop tt).map V.str))) pb (.lst ((zs.take tt).map V.str))) po (.lst ((zs.drop tt).map V.str ++ (zs.take tt).map V.str))) po = some (.lst ((zs.drop tt ++ zs.take tt).map V.str)) := by rw [upd_same, List.map_append]
      have zperm : (zs.drop tt ++ zs.take tt).Perm zs := by
        have h1 : (zs.drop tt ++ zs.take tt).Perm (zs.take tt ++ zs.drop tt) := List.perm_append_comm
        rw [List.take_append_drop] at h1
        exact h1
      generalize hz' : zs.drop tt ++ zs.take tt = zs' at *
      have nd' : zs'.Nodup := zperm.nodup_iff.mpr nd
      have z6' : zs'.length ≤ 6 := by rw [zperm.length_eq, zl]; exact kz6
      have zin : ∀ z, z ∈ zs' ↔ z ∈ zs := fun z => zperm.mem_iff
      have zne' : zs' ≠ [] := fun e => by have := zperm.length_eq; rw [e] at this; simp at this; omega
      generalize upd (upd (upd H1 pa (.lst ((zs.drop tt).map V.str))) pb (.lst ((zs.take tt).map V.str))) po (.lst ((zs.drop tt).map V.str ++ (zs.take tt).map V.str)) = H2 at *
      have F2 := F.kp k3
      refine ⟨nl, rd, m, zs, zs, c, rfl, F2.hn, nd, nd, fun z h => h, by omega, F2.hrw, fun r1 H3 nr1 hr1 k4 => ?_⟩
      intro ta da nta nda nea
      refine mk_tab hr1 F.hb nd zne (by omega) nm F.m1 F.m100 (by omega) (by have := F.s0m; omega) nta nda nea.symm fun H4 hTa k5 => ⟨rfl, ?_⟩
      have k24 := k4.trans k5
      have F4 := F2.kp k24
      refine ⟨po, ld, n, zs, zs', c', rfl, k24 _ _ not0 hpo, nd, nd', fun z h => (zin z).mp h, by omega, F4.hlw, fun r2 H5 nr2 hr2 k6 => ?_⟩
      intro tb db ntb ndb neb
      refine mk_tab hr2 (fun z hz => F.hb' z ((zin z).mp hz)) nd' zne' z6' (fun z hz => nm z ((zin z).mp hz)) F.n1 F.n100 (by omega) (by have := F.t0n; omega) ntb ndb neb.symm fun H6 hTb k7 => ⟨rfl, ?_⟩
      have k46 := k6.trans k7
      have k26 := k24.trans k46
      have F6 := F2.kp k26
      have hTa6 := hTa.kp k46
      have hpo6 := k26 _ _ not0 hpo
      refine forRg 2 (fun j σ H' => (∃ c14, σ = [c0, some (.ref dl), some (.ref fv), some (.ref nl), some (.ref rd), some (.int (s0 : Nat)), some (.ref sl), c7, some (.ref ld), some (.int (t0 : Nat)), some (.int (tt : Nat)), some (.ref po), some (.ref ta), some (.ref tb), c14, none, none, none, none]) ∧ Kp [] H6 H') (fun R q' => q') (by decide) (by decide) ⟨⟨_, rfl⟩, Kp.refl _ _⟩ ?_ ?_
      · rintro j σ H7 hj ⟨⟨c14, rfl⟩, k7'⟩
        have two : (2 : Nat) ≤ sizeLine := by rw [sizeLine_eq]; decide
        have st : ∀ (H8 : Hp) (Q1 Q2 : Int) (p : Addr), Kp [] H6 H8 → H8 p = none → ∀ (H9 : Hp), H9 = upd H8 p (.tup [.int Q1, .int Q2]) → H9 p = some (.tup [.int Q1, .int Q2]) ∧ Kp [] H6 H9 := fun H8 Q1 Q2 p k8 np H9 e => by
          subst e
          exact ⟨upd_same, k8.trans (Kp.new np)⟩
        try simp (maxSteps := 1000000) only [tSeq, tIfS, tTest, tOp, tUn, tCB, tCons, tNil, tVar, tC, rI0, rI, rU, rEq, rNe, tRet, tRetN, tAsg, gName, gSub, tBM, tBM0, tNext, tB, tNot, tAnd, tOr, tIf, tCall, tDrop, tBreak, tCont, L2.start, tDGet, sDPut, tTup, tLst, tDNewK, tRevL, rCat, rAppend, rPop, rSetL, tAndV, tOrV, tNotV, tSl, tPart, tNoPart, tM1, gTup, gCons, gNil, cxK, cxnK, List.map_cons, List.map_nil, List.length_cons, List.length_nil, List.replicate, List.cons_append, List.nil_append, List.append_nil, List.set_cons_zero, List.set_cons_succ, List.getElem?_cons_zero, List.getElem?_cons_succ, Option.some.injEq, V.ref.injEq, V.int.injEq, V.str.injEq, V.bl.injEq, V.ty.injEq, exists_eq_left', exists_eq_left, exists_and_left, List.cons.injEq, and_true, true_and, sc_ii, sc_ss, sc_bb, sc_ni, sc_in, sc_is, sc_si, sc_nn, decide_true, decide_false, reduceCtorEq, Bool.false_eq_true, if_true, if_false, ite_true, ite_false, exists_const, eq_self, false_and, and_false, or_false, false_or, exists_false, Evl.rLenS, rSum, wipe, tYes, exists_eq, exists_eq', rIxL, rIxT, rIxS, exists_and_right, gt_iff_lt, not_true_eq_false, not_false_eq_true, Bool.not_true, Bool.not_false, decide_eq_true_eq, Nat.reduceSub, Nat.reduceAdd, List.append_assoc, tChain, tDIn, tDNotIn, sDDel, tAug, ipI]
        refine ⟨two, fun p1 np1 => ?_⟩
        obtain ⟨hp1, kA⟩ := st _ _ _ p1 k7' np1 _ rfl
        generalize upd H7 p1 (.tup [.int (s0 : Nat), .int (t0 : Nat)]) = HA at hp1 kA ⊢
        have FA := F6.kp kA
        refine ⟨ta, tb, rd, ld, p1, nl, m, n, s0, t0, zs, zs', c, c', rfl, hTa6.kp kA, hTb.kp kA, zperm, ⟨zs, FA.hrw, nd, fun z h => h⟩, ⟨zs, FA.hlw, nd, fun z h => h⟩, hp1, FA.hn, fun HB kB => ⟨true, rfl, ?_⟩⟩
        rw [if_neg (by decide)]
        refine ⟨two, fun p2 np2 => ?_⟩
        obtain ⟨hp2, kC⟩ := st _ _ _ p2 (kA.trans kB) np2 _ rfl
        generalize upd HB p2 (.tup [.int (t0 : Nat), .int (s0 : Nat)]) = HC at hp2 kC ⊢
        have FC := F6.kp kC
        refine ⟨tb, ta, ld, rd, p2, po, n, m, t0, s0, zs', zs, c', c, rfl, hTb.kp kC, hTa6.kp kC, zperm.symm, ⟨zs, FC.hlw, nd, fun z h => (zin z).mp h⟩, ⟨zs, FC.hrw, nd, fun z h => (zin z).mp h⟩, hp2, kC _ _ not0 hpo6, fun HD kD => ⟨true, rfl, ?_⟩⟩
        rw [if_neg (by decide)]
        refine ⟨two, fun p3 np3 => ?_⟩
        obtain ⟨hp3, kE⟩ := st _ _ _ p3 (kC.trans kD) np3 _ rfl
        generalize upd HD p3 (.tup [.int (s0 : Nat), .int (s0 : Nat)]) = HE at hp3 kE ⊢
        have FE := F6.kp kE
        refine ⟨ta, ta, rd, rd, p3, nl, m, m, s0, s0, zs, zs, c, c, rfl, hTa6.kp kE, hTa6.kp kE, List.Perm.refl _, ⟨zs, FE.hrw, nd, fun z h => h⟩, ⟨zs, FE.hrw, nd, fun z h => h⟩, hp3, FE.hn, fun HF kF => ⟨true, rfl, ?_⟩⟩
        rw [if_neg (by decide)]
        exact kE.trans kF
      · rintro σ H7 ⟨⟨c14, rfl⟩, k7'⟩
        exact hq H7 dl fv nl rd ld po ta tb m n s0 t0 zs zs' fs c c' ds _ _ _ _ _ _ { F6.kp k7' with } (hTa6.kp k7') (hTb.kp k7') zperm ((k1.trans (k3.trans k26)).trans k7')
    refine ⟨_, (pss_cons (ps_set (i := 1) sc_law.nd rfl (Or.inl rfl) (pe_call G_law_draws (hr.mono (by decide)) rfl D_law_draws.g D_law_draws.F.kp D_law_draws.b .nil pass0 (pa_cons (pv 0) (pa_cons pe_int (pa_cons (pe_lst (pa_cons pe_int (pa_cons pe_int (pa_cons pe_int (pa_cons pe_int (pa_cons pe_int (pa_cons pe_int (pa_cons pe_int (pa_cons pe_int (pa_cons pe_int (pa_cons pe_int (pa_cons pe_int (pa_cons pe_int (pa_cons pe_int pa_nil)))))))))))))) pa_nil)))))
      (pss_cons (ps_set (i := 2) sc_law.nd rfl (Or.inl rfl) (pe_call G_law_names (hr.mono (by decide)) rfl D_law_names.g D_law_names.F.kp D_law_names.b .nil pass0 (pa_cons (pv 0) (pa_cons pe_int (pa_cons pe_int pa_nil)))))
      (pss_cons (ps_set (i := 3) sc_law.nd rfl (Or.inl rfl) (pe_slice sl_list (pv 2) po_none (po_some (pe_ix (r := rIxL K) ix_list (pe_lst (pa_cons pe_int (pa_cons pe_int (pa_cons pe_int (pa_cons pe_int (pa_cons pe_int (pa_cons pe_int (pa_cons pe_int (pa_cons pe_int pa_nil))))))))) (pe_ix (r := rIxL K) ix_list (pv 1) pe_int (fun _ _ => rfl)) (fun _ _ => rfl)))))
      (pss_cons (ps_set (i := 4) sc_law.nd rfl (Or.inl rfl) (pe_call G_law_rows (hr.mono (by decide)) rfl D_law_rows.g D_law_rows.F.kp D_law_rows.b .nil pass0 (pa_cons (pv 0) (pa_cons pe_int (pa_cons (pv 3) (pa_cons (pe_op op_add pe_int (pe_ix (r := rIxL K) ix_list (pv 1) pe_int (fun _ _ => rfl))) (pa_cons (pe_ix (r := rIxL K) ix_list (pe_lst (pa_cons pe_int (pa_cons pe_int (pa_cons pe_int (pa_cons pe_int pa_nil))))) (pe_ix (r := rIxL K) ix_list (pv 1) pe_int (fun _ _ => rfl)) (fun _ _ => rfl)) pa_nil)))))))
      (pss_cons (ps_set (i := 5) sc_law.nd rfl (Or.inl rfl) (pe_op op_mod (pe_callTy (T := "int") (r := rIv) call_int1 (by rfl) T.b_int (by decide +kernel) (pa_cons (pe_ix (r := rIxL K) ix_list (pv 1) pe_int (fun _ _ => rfl)) pa_nil)) (pe_op op_add pe_int (pe_ix (r := rIxL K) ix_list (pv 1) pe_int (fun _ _ => rfl)))))
      (pss_cons (ps_set (i := 6) sc_law.nd rfl (Or.inl rfl) (pe_call G_law_second (hr.mono (by decide)) rfl D_law_second.g D_law_second.F.kp D_law_second.b .nil pass0 (pa_cons (pv 0) (pa_cons (pv 1) (pa_cons (pv 3) (pa_cons (pv 4) (pa_cons (pv 5) pa_nil)))))))
      (pss_cons (ps_if (pt_cmpR op_eq (pe_ix (r := rIxL K) ix_list (pv 1) pe_int (fun _ _ => rfl)) pe_int (nomark _)) (pss_cons (ps_set (i := 7) sc_law.nd rfl (Or.inl rfl) (pe_op op_mod (pe_callTy (T := "int") (r := rIv) call_int1 (by rfl) T.b_int (by decide +kernel) (pa_cons (pe_ix (r := rIxL K) ix_list (pv 1) pe_int (fun _ _ => rfl)) pa_nil)) (pe_callB (id := "len") (r := Evl.rLenS K) call_len_seq (by rfl) T.b_len PySem.boot_len (pa_cons (pv 3) pa_nil))))
      (pss_cons (ps_set (i := 4) sc_law.nd rfl (Or.inl rfl) (pe_call G_law_chain (hr.mono (by decide)) rfl D_law_chain.g D_law_chain.F.kp D_law_chain.b .nil pass0 (pa_cons (pv 3) (pa_cons (pe_op op_add pe_int (pe_ix (r := rIxL K) ix_list (pv 1) pe_int (fun _ _ => rfl))) (pa_cons (pe_ix (r := rIxL K) ix_list (pv 1) pe_int (fun _ _ => rfl)) (pa_cons (pv 7) pa_nil))))))
      (pss_cons (ps_set (i := 6) sc_law.nd rfl (Or.inl rfl) (pe_lst (pa_cons (pe_call G_law_chain (hr.mono (by decide)) rfl D_law_chain.g D_law_chain.F.kp D_law_chain.b .nil pass0 (pa_cons (pv 3) (pa_cons (pe_op op_add pe_int (pe_ix (r := rIxL K) ix_list (pe_lst (pa_cons (pe_ix (r := rIxL K) ix_list (pv 1) pe_int (fun _ _ => rfl)) (pa_cons (pe_ix (r := rIxL K) ix_list (pv 1) pe_int (fun _ _ => rfl)) pa_nil))) (pe_ix (r := rIxL K) ix_list (pv 1) pe_int (fun _ _ => rfl)) (fun _ _ => rfl))) (pa_cons (pe_ix (r := rIxL K) ix_list (pv 1) pe_int (fun _ _ => rfl)) (pa_cons (pv 7) pa_nil))))) (pa_cons pe_int pa_nil))))
      (pss_one (ps_set (i := 5) sc_law.nd rfl (Or.inl rfl) pe_int))))) pss_nil)
      ht2))))))), ?_⟩
    try simp (maxSteps := 1000000) only [tSeq, tIfS, tTest, tOp, tUn, tCB, tCons, tNil, tVar, tC, rI0, rI, rU, rEq, rNe, tRet, tRetN, tAsg, gName, gSub, tBM, tBM0, tNext, tB, tNot, tAnd, tOr, tIf, tCall, tDrop, tBreak, tCont, L2.start, tDGet, sDPut, tTup, tLst, tDNewK, tRevL, rCat, rAppend, rPop, rSetL, tAndV, tOrV, tNotV, tSl, tPart, tNoPart, tM1, gTup, gCons, gNil, cxK, cxnK, List.map_cons, List.map_nil, List.length_cons, List.length_nil, List.replicate, List.cons_append, List.nil_append, List.append_nil, List.set_cons_zero, List.set_cons_succ, List.getElem?_cons_zero, List.getElem?_cons_succ, Option.some.injEq, V.ref.injEq, V.int.injEq, V.str.injEq, V.bl.injEq, V.ty.injEq, exists_eq_left', exists_eq_left, exists_and_left, List.cons.injEq, and_true, true_and, sc_ii, sc_ss, sc_bb, sc_ni, sc_in, sc_is, sc_si, sc_nn, decide_true, decide_false, reduceCtorEq, Bool.false_eq_true, if_true, if_false, ite_true, ite_false, exists_const, eq_self, false_and, and_false, or_false, false_or, exists_false, Evl.rLenS, rSum, wipe, tYes, exists_eq, exists_eq', rIxL, rIxT, rIxS, exists_and_right, gt_iff_lt, not_true_eq_false, not_false_eq_true, Bool.not_true, Bool.not_false, decide_eq_true_eq, Nat.reduceSub, Nat.reduceAdd, List.append_assoc, tChain, tDIn, tDNotIn, sDDel, tAug, ipI, rRep, rIv_int]
    refine ⟨by rw [sizeLine_eq]; decide, fun p np => ?_⟩
    have kp := (Kp.new np : Kp [] H (upd H p (.lst [.int 8, .int 4, .int 8, .int 12, .int 4, .int 6, .int 100, .int 100, .int 10, .int 10, .int 9, .int 60, .int 2])))
    refine ⟨a, p, 0, ns, spans16, rfl, ⟨kp.ls not0 hS, hl⟩, by decide, upd_same, by decide, by decide, fun dl ds H1 ndl hdl hd k1 => ?_⟩
    have k01 := kp.trans k1
    have dlen : ds.length = 13 := hd.1
    have dd : ∀ (i : Nat) (b : Int), spans16[i]? = some b → ∃ v, ds[i]? = some v ∧ 0 ≤ v ∧ v < b := fun i b e => by
      have hi : i < 13 := (List.getElem?_eq_some_iff.mp e).1
      have e2 := List.getElem?_eq_getElem (l := ds) (i := i) (by omega)
      exact ⟨_, e2, hd.2 i _ _ e2 e⟩
    have dV : ∀ {i : Nat} {v : Int}, ds[i]? = some v → atI (ds.map V.int) ((i : Nat) : Int) = some (.int v) := fun {i v} e => atI_nat (by rw [List.getElem?_map, e]; rfl)
    obtain ⟨d0, e0, l0, u0⟩ := dd 0 8 rfl
    obtain ⟨d1, e1, l1, u1⟩ := dd 1 4 rfl
    obtain ⟨d2, e2, l2, u2⟩ := dd 2 8 rfl
    obtain ⟨d3, e3, l3, u3⟩ := dd 3 12 rfl
    obtain ⟨d4, e4, l4, u4⟩ := dd 4 4 rfl
    obtain ⟨d5, e5, l5, u5⟩ := dd 5 6 rfl
    obtain ⟨d6, e6, l6, u6⟩ := dd 6 100 rfl
    obtain ⟨d7, e7, l7, u7⟩ := dd 7 100 rfl
    obtain ⟨d8, e8, l8, u8⟩ := dd 8 10 rfl
    obtain ⟨d9, e9, l9, u9⟩ := dd 9 10 rfl
    obtain ⟨d10, e10, l10, u10⟩ := dd 10 9 rfl
    obtain ⟨d12, e12, l12, u12⟩ := dd 12 2 rfl
    dsimp only
    refine ⟨a, 1, 7, ns, rfl, ⟨k01.ls not0 hS, hl⟩, by decide, by decide, by decide, fun fv fs H2 nfv hfv fl fnm fnd k2 => ?_⟩
    have k02 := k01.trans k2
    dsimp only
    obtain ⟨kz, ekz, kz1, kz6⟩ : ∃ kz : Nat, atI [V.int 1, V.int 2, V.int 3, V.int 1, V.int 2, V.int 3, V.int 2, V.int 6] d0 = some (.int (kz : Nat)) ∧ 1 ≤ kz ∧ kz ≤ 6 := by
      have : d0 = 0 ∨ d0 = 1 ∨ d0 = 2 ∨ d0 = 3 ∨ d0 = 4 ∨ d0 = 5 ∨ d0 = 6 ∨ d0 = 7 := by omega
      rcases this with rfl | rfl | rfl | rfl | rfl | rfl | rfl | rfl
      · exact ⟨1, rfl, by decide, by decide⟩
      · exact ⟨2, rfl, by decide, by decide⟩
      · exact ⟨3, rfl, by decide, by decide⟩
      · exact ⟨1, rfl, by decide, by decide⟩
      · exact ⟨2, rfl, by decide, by decide⟩
      · exact ⟨3, rfl, by decide, by decide⟩
      · exact ⟨2, rfl, by decide, by decide⟩
      · exact ⟨6, rfl, by decide, by decide⟩
    obtain ⟨v4, ev4, b4⟩ : ∃ v : Int, atI [V.int 2, V.int 2, V.int 3, V.int 10] d4 = some (.int v) ∧ 1 ≤ v ∧ v ≤ 10 := by
      have : d4 = 0 ∨ d4 = 1 ∨ d4 = 2 ∨ d4 = 3 := by omega
      rcases this with rfl | rfl | rfl | rfl
      · exact ⟨2, rfl, by decide, by decide⟩
      · exact ⟨2, rfl, by decide, by decide⟩
      · exact ⟨3, rfl, by decide, by decide⟩
      · exact ⟨10, rfl, by decide, by decide⟩
    refine ⟨by rw [sizeLine_eq]; decide, fun p3 np3 => ?_⟩
    have kq := (Kp.new np3 : Kp [] H2 (upd H2 p3 (.lst [.int 1, .int 2, .int 3, .int 1, .int 2, .int 3, .int 2, .int 6])))
    refine ⟨dl, rfl, _, sq_l ((k2.trans kq) _ _ not0 hdl), _, dV e0, _, _, rfl, sq_l upd_same, _, ekz, _, rfl, fv, _, rfl, sq_l (kq _ _ not0 hfv), fun pz npz => ?_⟩
    rw [cut_0j]
    have k3 := kq.trans (Kp.new npz : Kp [] _ (upd (upd H2 p3 (.lst [.int 1, .int 2, .int 3, .int 1, .int 2, .int 3, .int 2, .int 6])) pz (.lst ((fs.take kz).map V.str))))
    have hpz : (upd (upd H2 p3 (.lst [.int 1, .int 2, .int 3, .int 1, .int 2, .int 3, .int 2, .int 6])) pz (.lst ((fs.take kz).map V.str))) pz = some (.lst ((fs.take kz).map V.str)) := upd_same
    generalize upd (upd H2 p3 (.lst [.int 1, .int 2, .int 3, .int 1, .int 2, .int 3, .int 2, .int 6])) pz (.lst ((fs.take kz).map V.str)) = H3 at k3 hpz ⊢
    have zl : (fs.take kz).length = kz := by rw [List.length_take]; omega
    have znd : (fs.take kz).Nodup := (List.take_sublist _ _).nodup fnd
    obtain ⟨zs, ezs⟩ : ∃ zs, zs = fs.take kz := ⟨_, rfl⟩
    rw [← ezs] at zl znd hpz
    have k03 := k02.trans k3
    have k13 := k2.trans k3
    have hdl3 := k13 _ _ not0 hdl
    obtain ⟨m, em⟩ : ∃ m : Nat, 1 + d1 = (m : Nat) := ⟨(1 + d1).toNat, by omega⟩
    try simp (maxSteps := 1000000) only [tSeq, tIfS, tTest, tOp, tUn, tCB, tCons, tNil, tVar, tC, rI0, rI, rU, rEq, rNe, tRet, tRetN, tAsg, gName, gSub, tBM, tBM0, tNext, tB, tNot, tAnd, tOr, tIf, tCall, tDrop, tBreak, tCont, L2.start, tDGet, sDPut, tTup, tLst, tDNewK, tRevL, rCat, rAppend, rPop, rSetL, tAndV, tOrV, tNotV, tSl, tPart, tNoPart, tM1, gTup, gCons, gNil, cxK, cxnK, List.map_cons, List.map_nil, List.length_cons, List.length_nil, List.replicate, List.cons_append, List.nil_append, List.append_nil, List.set_cons_zero, List.set_cons_succ, List.getElem?_cons_zero, List.getElem?_cons_succ, Option.some.injEq, V.ref.injEq, V.int.injEq, V.str.injEq, V.bl.injEq, V.ty.injEq, exists_eq_left', exists_eq_left, exists_and_left, List.cons.injEq, and_true, true_and, sc_ii, sc_ss, sc_bb, sc_ni, sc_in, sc_is, sc_si, sc_nn, decide_true, decide_false, reduceCtorEq, Bool.false_eq_true, if_true, if_false, ite_true, ite_false, exists_const, eq_self, false_and, and_false, or_false, false_or, exists_false, Evl.rLenS, rSum, wipe, tYes, exists_eq, exists_eq', rIxL, rIxT, rIxS, exists_and_right, gt_iff_lt, not_true_eq_false, not_false_eq_true, Bool.not_true, Bool.not_false, decide_eq_true_eq, Nat.reduceSub, Nat.reduceAdd, List.append_assoc, tChain, tDIn, tDNotIn, sDDel, tAug, ipI, rRep, rIv_int]
    refine ⟨_, sq_l hdl3, _, dV e1, _, rfl, by rw [sizeLine_eq]; decide, fun p4 np4 => ?_⟩
    have k4 := (Kp.new np4 : Kp [] H3 (upd H3 p4 (.lst [.int 2, .int 2, .int 3, .int 10])))
    refine ⟨_, sq_l (k4 _ _ not0 hdl3), _, dV e4, _, _, rfl, sq_l upd_same, _, ev4, ?_⟩
    rw [em]
    generalize upd H3 p4 (.lst [.int 2, .int 2, .int 3, .int 10]) = H4 at k4 ⊢
    have k04 := k03.trans k4
    refine ⟨a, pz, 2, m, v4, ns, zs, rfl, ⟨k04.ls not0 hS, hl⟩, by decide, k4 _ _ not0 hpz, znd, by omega, by omega, by omega, b4.1, b4.2, fun rd c H5 nrd hrw hb0 k5 => ?_⟩
    have hb : CellB zs m 10 c := fun z hz s hs => by
      have := hb0 z hz s hs
      omega
    have k35 := k4.trans k5
    have hdl5 := k35 _ _ not0 hdl3
    have hn5 := k35 _ _ not0 hpz
    have hfv5 := (k3.trans k35) _ _ not0 hfv
    have k05 := k03.trans k35
    have zne : zs ≠ [] := fun e => by rw [e] at zl; simp at zl; omega
    dsimp only
    refine ⟨_, sq_l hdl5, _, dV e3, ?_⟩
    try simp (maxSteps := 1000000) only [tSeq, tIfS, tTest, tOp, tUn, tCB, tCons, tNil, tVar, tC, rI0, rI, rU, rEq, rNe, tRet, tRetN, tAsg, gName, gSub, tBM, tBM0, tNext, tB, tNot, tAnd, tOr, tIf, tCall, tDrop, tBreak, tCont, L2.start, tDGet, sDPut, tTup, tLst, tDNewK, tRevL, rCat, rAppend, rPop, rSetL, tAndV, tOrV, tNotV, tSl, tPart, tNoPart, tM1, gTup, gCons, gNil, cxK, cxnK, List.map_cons, List.map_nil, List.length_cons, List.length_nil, List.replicate, List.cons_append, List.nil_append, List.append_nil, List.set_cons_zero, List.set_cons_succ, List.getElem?_cons_zero, List.getElem?_cons_succ, Option.some.injEq, V.ref.injEq, V.int.injEq, V.str.injEq, V.bl.injEq, V.ty.injEq, exists_eq_left', exists_eq_left, exists_and_left, List.cons.injEq, and_true, true_and, sc_ii, sc_ss, sc_bb, sc_ni, sc_in, sc_is, sc_si, sc_nn, decide_true, decide_false, reduceCtorEq, Bool.false_eq_true, if_true, if_false, ite_true, ite_false, exists_const, eq_self, false_and, and_false, or_false, false_or, exists_false, Evl.rLenS, rSum, wipe, tYes, exists_eq, exists_eq', rIxL, rIxT, rIxS, exists_and_right, gt_iff_lt, not_true_eq_false, not_false_eq_true, Bool.not_true, Bool.not_false, decide_eq_true_eq, Nat.reduceSub, Nat.reduceAdd, List.append_assoc, tChain, tDIn, tDNotIn, sDDel, tAug, ipI, rRep, rIv_int]
    refine ⟨_, sq_l hdl5, _, dV e1, _, rfl, by omega, ?_⟩
    rw [em]
    obtain ⟨s0, es0⟩ : ∃ s0 : Nat, d3 % ((m : Nat) : Int) = (s0 : Nat) := ⟨(d3 % ((m : Nat) : Int)).toNat, by have := Int.emod_nonneg d3 (show ((m : Nat) : Int) ≠ 0 by omega); omega⟩
    have s0m : s0 < m := by have := Int.emod_lt_of_pos d3 (show (0 : Int) < ((m : Nat) : Int) by omega); omega
    rw [es0]
    refine ⟨a, dl, pz, rd, m, s0, ns, ds, zs, c, rfl, ⟨k05.ls not0 hS, hl⟩, hdl5, hd, hrw, hn5, znd, zne, by omega, hb, by omega, by omega, s0m, fun sl ld t0 n xs c' H6 hsl hlw hb' t0n n1 n100 k6 => ?_⟩
    have hdl6 := k6 _ _ not0 hdl5
    have hn6 := k6 _ _ not0 hn5
    have hfv6 := k6 _ _ not0 hfv5
    have k06 := k05.trans k6
    dsimp only
    have hF : ∃ k, 1 ≤ k ∧ k ≤ 6 ∧ zs = fs.take k := ⟨kz, kz1, kz6, ezs⟩
    refine ⟨_, sq_l hdl6, _, dV e2, rfl, ?_⟩
    by_cases w6 : V.int d2 = V.int 6
    · rw [if_pos w6]
      refine ⟨_, sq_l hdl6, _, dV e10, ?_⟩
      try simp (maxSteps := 1000000) only [tSeq, tIfS, tTest, tOp, tUn, tCB, tCons, tNil, tVar, tC, rI0, rI, rU, rEq, rNe, tRet, tRetN, tAsg, gName, gSub, tBM, tBM0, tNext, tB, tNot, tAnd, tOr, tIf, tCall, tDrop, tBreak, tCont, L2.start, tDGet, sDPut, tTup, tLst, tDNewK, tRevL, rCat, rAppend, rPop, rSetL, tAndV, tOrV, tNotV, tSl, tPart, tNoPart, tM1, gTup, gCons, gNil, cxK, cxnK, List.map_cons, List.map_nil, List.length_cons, List.length_nil, List.replicate, List.cons_append, List.nil_append, List.append_nil, List.set_cons_zero, List.set_cons_succ, List.getElem?_cons_zero, List.getElem?_cons_succ, Option.some.injEq, V.ref.injEq, V.int.injEq, V.str.injEq, V.bl.injEq, V.ty.injEq, exists_eq_left', exists_eq_left, exists_and_left, List.cons.injEq, and_true, true_and, sc_ii, sc_ss, sc_bb, sc_ni, sc_in, sc_is, sc_si, sc_nn, decide_true, decide_false, reduceCtorEq, Bool.false_eq_true, if_true, if_false, ite_true, ite_false, exists_const, eq_self, false_and, and_false, or_false, false_or, exists_false, Evl.rLenS, rSum, wipe, tYes, exists_eq, exists_eq', rIxL, rIxT, rIxS, exists_and_right, gt_iff_lt, not_true_eq_false, not_false_eq_true, Bool.not_true, Bool.not_false, decide_eq_true_eq, Nat.reduceSub, Nat.reduceAdd, List.append_assoc, tChain, tDIn, tDNotIn, sDDel, tAug, ipI, rRep, rIv_int]
      refine ⟨_, .inl (sq_l hn6), ?_⟩
      rw [List.length_map, zl]
      obtain ⟨sp, esp⟩ : ∃ sp : Nat, d10 % ((kz : Nat) : Int) = (sp : Nat) := ⟨(d10 % ((kz : Nat) : Int)).toNat, by have := Int.emod_nonneg d10 (show ((kz : Nat) : Int) ≠ 0 by omega); omega⟩
      have spk : sp < kz := by have := Int.emod_lt_of_pos d10 (show (0 : Int) < ((kz : Nat) : Int) by omega); omega
      rw [esp]
      obtain ⟨z1, ez1⟩ : ∃ z1 : Nat, 1 + d6 = (z1 : Nat) := ⟨(1 + d6).toNat, by omega⟩
      refine ⟨by omega, _, sq_l hdl6, _, dV e6, _, rfl, _, sq_l hdl6, _, dV e8, ?_⟩
      rw [ez1]
      refine ⟨pz, z1, sp, d8, zs, rfl, hn6, znd, by omega, by omega, by omega, by omega, fun r1 H7 nr1 hr1 k7 => ?_⟩
      have hdl7 := k7 _ _ not0 hdl6
      dsimp only
      refine ⟨_, sq_l hdl7, _, dV e6, _, sq_l hdl7, _, dV e7, by rw [sizeLine_eq]; decide, fun p5 np5 => ?_⟩
      have k8 := (Kp.new np5 : Kp [] H7 (upd H7 p5 (.lst [.int d6, .int d7])))
      have h85 : (upd H7 p5 (.lst [.int d6, .int d7])) p5 = some (.lst [.int d6, .int d7]) := upd_same
      generalize upd H7 p5 (.lst [.int d6, .int d7]) = H8 at k8 h85 ⊢
      have hdl8 := k8 _ _ not0 hdl7
      obtain ⟨v, ev, v0, v1⟩ : ∃ v : Int, atI [V.int d6, V.int d7] d12 = some (.int v) ∧ 0 ≤ v ∧ v < 100 := by
        have : d12 = 0 ∨ d12 = 1 := by omega
        rcases this with rfl | rfl
        · exact ⟨d6, rfl, l6, u6⟩
        · exact ⟨d7, rfl, l7, u7⟩
      obtain ⟨z2, ez2⟩ : ∃ z2 : Nat, 1 + v = (z2 : Nat) := ⟨(1 + v).toNat, by omega⟩
      refine ⟨_, sq_l hdl8, _, dV e12, _, _, rfl, sq_l h85, _, ev, _, rfl, _, sq_l hdl8, _, dV e9, ?_⟩
      rw [ez2]
      have k68 := k7.trans k8
      refine ⟨pz, z2, sp, d9, zs, rfl, k68 _ _ not0 hn6, znd, by omega, by omega, by omega, by omega, fun r2 H9 nr2 hr2 k9 => ?_⟩
      refine ⟨by rw [sizeLine_eq]; decide, fun l2 nl2 => ?_⟩
      have kA := (Kp.new nl2 : Kp [] H9 (upd H9 l2 (.lst [.ref r2, .int 0])))
      have hl2 : (upd H9 l2 (.lst [.ref r2, .int 0])) l2 = some (.lst [.ref r2, .int 0]) := upd_same
      generalize upd H9 l2 (.lst [.ref r2, .int 0]) = HA at kA hl2 ⊢
      have k6A := (k68.trans k9).trans kA
      exact hq2 HA dl fv pz r1 r2 l2 z1 z2 0 0 zs fs _ _ ds [] d5 _ _ ⟨k6A _ _ not0 hdl6, k6A _ _ not0 hfv6, k6A _ _ not0 hn6, hr1.kp ((k8.trans k9).trans kA), hr2.kp kA, chC_ok (by omega) l8 u8, chC_ok (by omega) l9 u9, hF, fl, fnd, fnm, by omega, by omega, by omega, by omega, by omega, by omega⟩ hl2 e5 (k06.trans k6A)
    · rw [if_neg w6]
      exact hq2 H6 dl fv pz rd ld sl m n s0 t0 zs fs c c' ds xs d5 _ _ ⟨hdl6, hfv6, hn6, hrw.kp k6, hlw, hb, hb', hF, fl, fnd, fnm, by omega, by omega, n1, n100, s0m, t0n⟩ hsl e5 k06
end
end My

set_option Elab.async false
set_option linter.all false
set_option maxRecDepth 100000
set_option maxHeartbeats 8000000
namespace My
open PySem L2 NdefX StX
theorem exm_sub {K : PySem.W.Frag} {S D : Addr} {b : Bool} (h1 : PySem.W.subIn K (.ref D) (.type "BaseException") = some true) (h2 : PySem.W.isClsIn K D = true) (h3 : PySem.W.typeIn K (.ref D) = some (.type "type"))
    (h4 : PySem.W.subIn K (.ref S) (.ref D) = some b) : PySem.W.exmOne K (.ref S) (.ref D) = some b := by
  have i2 : (PySem.W.clsIn K D).isSome = true := h2
  unfold PySem.W.exmOne
  simp [PySem.W.kitCls, h1, i2, h3, h4]
theorem kit_self {K : PySem.W.Frag} {S : Addr} : PySem.W.kitOne K (.ref S) (.ref S) = some true := by
  unfold PySem.W.kitOne
  rw [if_pos (beq_self_eq_true _)]
theorem kit_sub {K : PySem.W.Frag} {S D : Addr} {b : Bool} (h1 : ((Value.ref S) == (Value.ref D)) = false) (h2 : PySem.W.isClsIn K D = true) (h3 : PySem.W.typeIn K (.ref D) = some (.type "type")) (h4 : PySem.W.subIn K (.ref S) (.ref D) = some b) : PySem.W.kitOne K (.ref S) (.ref D) = some b := by
  have i2 : (PySem.W.clsIn K D).isSome = true := h2
  unfold PySem.W.kitOne
  rw [h1]
  simp [PySem.W.kitCls, i2, h3, h4]
theorem kit_ty {K : PySem.W.Frag} {S : Addr} {T : String} {b : Bool} (h1 : PySem.W.kitMeta T = true) (h4 : PySem.W.subIn K (.ref S) (.type T) = some b) : PySem.W.kitOne K (.ref S) (.type T) = some b := by
  unfold PySem.W.kitOne
  rw [if_neg (by rw [show ((Value.ref S) == (Value.type T)) = false from beq_eq_false_iff_ne.mpr (fun z => nomatch z)]; exact Bool.false_ne_true)]
  simp [PySem.W.kitCls, h1, h4]
theorem all_mk {l : PySem.W.OpenLaw} {w : World} {K : PySem.W.Frag} {h : Heap} {mg : Str → Option Value} {fa : Addr} (X : K.In h) (G : h.Ns mainGlobals mg) (hfa : mg "law" = some (.ref fa))
    {f0 : Addr}
    {od0 an0 : Option Addr}
    {sl0 : Array (Option Value)}
    {oc0 kV0 dc0 pm0 cd0 ct0 : Value}
    {f1 : Addr}
    {od1 an1 : Option Addr}
    {sl1 : Array (Option Value)}
    {oc1 kV1 dc1 pm1 cd1 ct1 : Value}
    {f2 : Addr}
    {od2 an2 : Option Addr}
    {sl2 : Array (Option Value)}
    {oc2 kV2 dc2 pm2 cd2 ct2 : Value}
    {f3 : Addr}
    {od3 an3 : Option Addr}
    {sl3 : Array (Option Value)}
    {oc3 kV3 dc3 pm3 cd3 ct3 : Value}
    {f4 : Addr}
    {od4 an4 : Option Addr}
    {sl4 : Array (Option Value)}
    {oc4 kV4 dc4 pm4 cd4 ct4 : Value}
    {f5 : Addr}
    {od5 an5 : Option Addr}
    {sl5 : Array (Option Value)}
    {oc5 kV5 dc5 pm5 cd5 ct5 : Value}
    {f6 : Addr}
    {od6 an6 : Option Addr}
    {sl6 : Array (Option Value)}
    {oc6 kV6 dc6 pm6 cd6 ct6 : Value}
    {f7 : Addr}
    {od7 an7 : Option Addr}
    {sl7 : Array (Option Value)}
    {oc7 kV7 dc7 pm7 cd7 ct7 : Value}
    {f8 : Addr}
    {od8 an8 : Option Addr}
    {sl8 : Array (Option Value)}
    {oc8 kV8 dc8 pm8 cd8 ct8 : Value}
    {f9 : Addr}
    {od9 an9 : Option Addr}
    {sl9 : Array (Option Value)}
    {oc9 kV9 dc9 pm9 cd9 ct9 : Value}
    {f10 : Addr}
    {od10 an10 : Option Addr}
    {sl10 : Array (Option Value)}
    {oc10 kV10 dc10 pm10 cd10 ct10 : Value}
    {f11 : Addr}
    {od11 an11 : Option Addr}
    {sl11 : Array (Option Value)}
    {oc11 kV11 dc11 pm11 cd11 ct11 : Value}
    {f12 : Addr}
    {od12 an12 : Option Addr}
    {sl12 : Array (Option Value)}
    {oc12 kV12 dc12 pm12 cd12 ct12 : Value}
    {f13 : Addr}
    {od13 an13 : Option Addr}
    {sl13 : Array (Option Value)}
    {oc13 kV13 dc13 pm13 cd13 ct13 : Value}
    {f14 : Addr}
    {od14 an14 : Option Addr}
    {sl14 : Array (Option Value)}
    {oc14 kV14 dc14 pm14 cd14 ct14 : Value}
    {f15 : Addr}
    {od15 an15 : Option Addr}
    {sl15 : Array (Option Value)}
    {oc15 kV15 dc15 pm15 cd15 ct15 : Value}
    {f16 : Addr}
    {od16 an16 : Option Addr}
    {sl16 : Array (Option Value)}
    {oc16 kV16 dc16 pm16 cd16 ct16 : Value}
    {f17 : Addr}
    {od17 an17 : Option Addr}
    {sl17 : Array (Option Value)}
    {oc17 kV17 dc17 pm17 cd17 ct17 : Value}
    {f18 : Addr}
    {od18 an18 : Option Addr}
    {sl18 : Array (Option Value)}
    {oc18 kV18 dc18 pm18 cd18 ct18 : Value}
    {f19 : Addr}
    {od19 an19 : Option Addr}
    {sl19 : Array (Option Value)}
    {oc19 kV19 dc19 pm19 cd19 ct19 : Value}
    {f20 : Addr}
    {od20 an20 : Option Addr}
    {sl20 : Array (Option Value)}
    {oc20 kV20 dc20 pm20 cd20 ct20 : Value}
    {f21 : Addr}
    {od21 an21 : Option Addr}
    {sl21 : Array (Option Value)}
    {oc21 kV21 dc21 pm21 cd21 ct21 : Value}
    {f22 : Addr}
    {od22 an22 : Option Addr}
    {sl22 : Array (Option Value)}
    {oc22 kV22 dc22 pm22 cd22 ct22 : Value}
    {f23 : Addr}
    {od23 an23 : Option Addr}
    {sl23 : Array (Option Value)}
    {oc23 kV23 dc23 pm23 cd23 ct23 : Value}
    {f24 : Addr}
    {od24 an24 : Option Addr}
    {sl24 : Array (Option Value)}
    {oc24 kV24 dc24 pm24 cd24 ct24 : Value}
    {f25 : Addr}
    {od25 an25 : Option Addr}
    {sl25 : Array (Option Value)}
    {oc25 kV25 dc25 pm25 cd25 ct25 : Value}
    {f26 : Addr}
    {od26 an26 : Option Addr}
    {sl26 : Array (Option Value)}
    {oc26 kV26 dc26 pm26 cd26 ct26 : Value}
    {sL : Str}
    {tL : Tok}
    {tX6 : Tok}
    {tX1 : Tok}
    {BN feN ccN cdaN NN : Addr}
    {nmN qnN fileN : Str}
    {bsN bmN sbN : List Value}
    {snN : List Str}
    {abN : Bool}
    {coN : Option Bool}
    {ddN odN anN cdN ceN : Option Addr}
    {m0N m1N m2N m3N m5N : Option Value}
    {vsN : Array Value}
    {tfN : Tok}
    {slN csN czN : Array (Option Value)}
    {ocN kVN dcN pmN ctN clN cxN : Value}
    {BT feB ccB cdaB NB : Addr}
    {nmB qnB fileB : Str}
    {bsB bmB sbB : List Value}
    {snB : List Str}
    {abB : Bool}
    {coB : Option Bool}
    {ddB odB anB cdB ceB : Option Addr}
    {m0B m1B m2B m3B m5B : Option Value}
    {vsB : Array Value}
    {tfB : Tok}
    {slB csB czB : Array (Option Value)}
    {ocB kVB dcB pmB ctB clB cxB : Value}
    {NO feQ ccQ cdaQ NQ : Addr}
    {nmQ qnQ fileQ : Str}
    {bsQ bmQ sbQ : List Value}
    {snQ : List Str}
    {abQ : Bool}
    {coQ : Option Bool}
    {ddQ odQ anQ cdQ ceQ : Option Addr}
    {m0Q m1Q m2Q m3Q m5Q : Option Value}
    {vsQ : Array Value}
    {tfQ : Tok}
    {slQ csQ czQ : Array (Option Value)}
    {ocQ kVQ dcQ pmQ ctQ clQ cxQ : Value}
    {ON feH ccH cdaH NH : Addr}
    {nmH qnH fileH : Str}
    {bsH bmH sbH : List Value}
    {snH : List Str}
    {abH : Bool}
    {coH : Option Bool}
    {ddH odH anH cdH ceH : Option Addr}
    {m0H m1H m2H m3H m5H : Option Value}
    {vsH : Array Value}
    {tfH : Tok}
    {slH csH czH : Array (Option Value)}
    {ocH kVH dcH pmH ctH clH cxH : Value}
    {CE : Addr}
    {TC : Addr}
    {TD : Addr}
    {dtD : Option Addr}
    {itsD : Array Value}
    {ntD : Nat}
    {sqD : Array (Option Value)}
    {tcD : Value}
    {tkD : Tok}
    {fTI : Addr}
    {odTI anTI : Option Addr}
    {slTI : Array (Option Value)}
    {ocTI kVTI dcTI pmTI cdTI ctTI : Value}
    {fTN : Addr}
    {odTN anTN : Option Addr}
    {slTN : Array (Option Value)}
    {ocTN kVTN dcTN pmTN cdTN ctTN : Value}
    {fTO : Addr}
    {odTO anTO : Option Addr}
    {slTO : Array (Option Value)}
    {ocTO kVTO dcTO pmTO cdTO ctTO : Value}
    {fTK : Addr}
    {odTK anTK : Option Addr}
    {slTK : Array (Option Value)}
    {ocTK kVTK dcTK pmTK cdTK ctTK : Value}
    (a0 : PySem.W.nsIn K mainGlobals "is_name" = some (some (.ref f0)))
    (l0 : K.lookup f0 = some ⟨oc0, od0, .func (PySem.W.fnOf "is_name" "is_name" (defArgs s_is_name) (defBody s_is_name) (defScope s_is_name) .none kV0 dc0 pm0 an0 cd0 ct0), sl0⟩)
    (c0 : PySem.W.codeIn K cd0 "is_name" = true)
    (k0 : PySem.W.keepIn K (.ref f0) = true)
    (a1 : PySem.W.nsIn K mainGlobals "is_below" = some (some (.ref f1)))
    (l1 : K.lookup f1 = some ⟨oc1, od1, .func (PySem.W.fnOf "is_below" "is_below" (defArgs s_is_below) (defBody s_is_below) (defScope s_is_below) .none kV1 dc1 pm1 an1 cd1 ct1), sl1⟩)
    (c1 : PySem.W.codeIn K cd1 "is_below" = true)
    (k1 : PySem.W.keepIn K (.ref f1) = true)
    (a2 : PySem.W.nsIn K mainGlobals "is_number" = some (some (.ref f2)))
    (l2 : K.lookup f2 = some ⟨oc2, od2, .func (PySem.W.fnOf "is_number" "is_number" (defArgs s_is_number) (defBody s_is_number) (defScope s_is_number) .none kV2 dc2 pm2 an2 cd2 ct2), sl2⟩)
    (c2 : PySem.W.codeIn K cd2 "is_number" = true)
    (k2 : PySem.W.keepIn K (.ref f2) = true)
    (a3 : PySem.W.nsIn K mainGlobals "is_pair" = some (some (.ref f3)))
    (l3 : K.lookup f3 = some ⟨oc3, od3, .func (PySem.W.fnOf "is_pair" "is_pair" (defArgs s_is_pair) (defBody s_is_pair) (defScope s_is_pair) .none kV3 dc3 pm3 an3 cd3 ct3), sl3⟩)
    (c3 : PySem.W.codeIn K cd3 "is_pair" = true)
    (k3 : PySem.W.keepIn K (.ref f3) = true)
    (a4 : PySem.W.nsIn K mainGlobals "is_row" = some (some (.ref f4)))
    (l4 : K.lookup f4 = some ⟨oc4, od4, .func (PySem.W.fnOf "is_row" "is_row" (defArgs s_is_row) (defBody s_is_row) (defScope s_is_row) .none kV4 dc4 pm4 an4 cd4 ct4), sl4⟩)
    (c4 : PySem.W.codeIn K cd4 "is_row" = true)
    (k4 : PySem.W.keepIn K (.ref f4) = true)
    (a5 : PySem.W.nsIn K mainGlobals "check_rows" = some (some (.ref f5)))
    (l5 : K.lookup f5 = some ⟨oc5, od5, .func (PySem.W.fnOf "check_rows" "check_rows" (defArgs s_check_rows) (defBody s_check_rows) (defScope s_check_rows) .none kV5 dc5 pm5 an5 cd5 ct5), sl5⟩)
    (c5 : PySem.W.codeIn K cd5 "check_rows" = true)
    (k5 : PySem.W.keepIn K (.ref f5) = true)
    (a6 : PySem.W.nsIn K mainGlobals "row_to" = some (some (.ref f6)))
    (l6 : K.lookup f6 = some ⟨oc6, od6, .func (PySem.W.fnOf "row_to" "row_to" (defArgs s_row_to) (defBody s_row_to) (defScope s_row_to) .none kV6 dc6 pm6 an6 cd6 ct6), sl6⟩)
    (c6 : PySem.W.codeIn K cd6 "row_to" = true)
    (k6 : PySem.W.keepIn K (.ref f6) = true)
    (a7 : PySem.W.nsIn K mainGlobals "meeting" = some (some (.ref f7)))
    (l7 : K.lookup f7 = some ⟨oc7, od7, .func (PySem.W.fnOf "meeting" "meeting" (defArgs s_meeting) (defBody s_meeting) (defScope s_meeting) .none kV7 dc7 pm7 an7 cd7 ct7), sl7⟩)
    (c7 : PySem.W.codeIn K cd7 "meeting" = true)
    (k7 : PySem.W.keepIn K (.ref f7) = true)
    (a8 : PySem.W.nsIn K mainGlobals "parting" = some (some (.ref f8)))
    (l8 : K.lookup f8 = some ⟨oc8, od8, .func (PySem.W.fnOf "parting" "parting" (defArgs s_parting) (defBody s_parting) (defScope s_parting) .none kV8 dc8 pm8 an8 cd8 ct8), sl8⟩)
    (c8 : PySem.W.codeIn K cd8 "parting" = true)
    (k8 : PySem.W.keepIn K (.ref f8) = true)
    (a9 : PySem.W.nsIn K mainGlobals "alike" = some (some (.ref f9)))
    (l9 : K.lookup f9 = some ⟨oc9, od9, .func (PySem.W.fnOf "alike" "alike" (defArgs s_alike) (defBody s_alike) (defScope s_alike) .none kV9 dc9 pm9 an9 cd9 ct9), sl9⟩)
    (c9 : PySem.W.codeIn K cd9 "alike" = true)
    (k9 : PySem.W.keepIn K (.ref f9) = true)
    (a10 : PySem.W.nsIn K mainGlobals "likeness" = some (some (.ref f10)))
    (l10 : K.lookup f10 = some ⟨oc10, od10, .func (PySem.W.fnOf "likeness" "likeness" (defArgs s_likeness) (defBody s_likeness) (defScope s_likeness) .none kV10 dc10 pm10 an10 cd10 ct10), sl10⟩)
    (c10 : PySem.W.codeIn K cd10 "likeness" = true)
    (k10 : PySem.W.keepIn K (.ref f10) = true)
    (a11 : PySem.W.nsIn K mainGlobals "_law_mixed" = some (some (.ref f11)))
    (l11 : K.lookup f11 = some ⟨oc11, od11, .func (PySem.W.fnOf "_law_mixed" "_law_mixed" (defArgs s_law_mixed) (defBody s_law_mixed) (defScope s_law_mixed) .none kV11 dc11 pm11 an11 cd11 ct11), sl11⟩)
    (c11 : PySem.W.codeIn K cd11 "_law_mixed" = true)
    (k11 : PySem.W.keepIn K (.ref f11) = true)
    (a12 : PySem.W.nsIn K mainGlobals "_law_draws" = some (some (.ref f12)))
    (l12 : K.lookup f12 = some ⟨oc12, od12, .func (PySem.W.fnOf "_law_draws" "_law_draws" (defArgs s_law_draws) (defBody s_law_draws) (defScope s_law_draws) .none kV12 dc12 pm12 an12 cd12 ct12), sl12⟩)
    (c12 : PySem.W.codeIn K cd12 "_law_draws" = true)
    (k12 : PySem.W.keepIn K (.ref f12) = true)
    (a13 : PySem.W.nsIn K mainGlobals "_law_names" = some (some (.ref f13)))
    (l13 : K.lookup f13 = some ⟨oc13, od13, .func (PySem.W.fnOf "_law_names" "_law_names" (defArgs s_law_names) (defBody s_law_names) (defScope s_law_names) .none kV13 dc13 pm13 an13 cd13 ct13), sl13⟩)
    (c13 : PySem.W.codeIn K cd13 "_law_names" = true)
    (k13 : PySem.W.keepIn K (.ref f13) = true)
    (a14 : PySem.W.nsIn K mainGlobals "_law_rows" = some (some (.ref f14)))
    (l14 : K.lookup f14 = some ⟨oc14, od14, .func (PySem.W.fnOf "_law_rows" "_law_rows" (defArgs s_law_rows) (defBody s_law_rows) (defScope s_law_rows) .none kV14 dc14 pm14 an14 cd14 ct14), sl14⟩)
    (c14 : PySem.W.codeIn K cd14 "_law_rows" = true)
    (k14 : PySem.W.keepIn K (.ref f14) = true)
    (a15 : PySem.W.nsIn K mainGlobals "_law_copy" = some (some (.ref f15)))
    (l15 : K.lookup f15 = some ⟨oc15, od15, .func (PySem.W.fnOf "_law_copy" "_law_copy" (defArgs s_law_copy) (defBody s_law_copy) (defScope s_law_copy) .none kV15 dc15 pm15 an15 cd15 ct15), sl15⟩)
    (c15 : PySem.W.codeIn K cd15 "_law_copy" = true)
    (k15 : PySem.W.keepIn K (.ref f15) = true)
    (a16 : PySem.W.nsIn K mainGlobals "_law_is_whole" = some (some (.ref f16)))
    (l16 : K.lookup f16 = some ⟨oc16, od16, .func (PySem.W.fnOf "_law_is_whole" "_law_is_whole" (defArgs s_law_is_whole) (defBody s_law_is_whole) (defScope s_law_is_whole) .none kV16 dc16 pm16 an16 cd16 ct16), sl16⟩)
    (c16 : PySem.W.codeIn K cd16 "_law_is_whole" = true)
    (k16 : PySem.W.keepIn K (.ref f16) = true)
    (a17 : PySem.W.nsIn K mainGlobals "_law_is_pair" = some (some (.ref f17)))
    (l17 : K.lookup f17 = some ⟨oc17, od17, .func (PySem.W.fnOf "_law_is_pair" "_law_is_pair" (defArgs s_law_is_pair) (defBody s_law_is_pair) (defScope s_law_is_pair) .none kV17 dc17 pm17 an17 cd17 ct17), sl17⟩)
    (c17 : PySem.W.codeIn K cd17 "_law_is_pair" = true)
    (k17 : PySem.W.keepIn K (.ref f17) = true)
    (a18 : PySem.W.nsIn K mainGlobals "_law_copies" = some (some (.ref f18)))
    (l18 : K.lookup f18 = some ⟨oc18, od18, .func (PySem.W.fnOf "_law_copies" "_law_copies" (defArgs s_law_copies) (defBody s_law_copies) (defScope s_law_copies) .none kV18 dc18 pm18 an18 cd18 ct18), sl18⟩)
    (c18 : PySem.W.codeIn K cd18 "_law_copies" = true)
    (k18 : PySem.W.keepIn K (.ref f18) = true)
    (a19 : PySem.W.nsIn K mainGlobals "_law_chain" = some (some (.ref f19)))
    (l19 : K.lookup f19 = some ⟨oc19, od19, .func (PySem.W.fnOf "_law_chain" "_law_chain" (defArgs s_law_chain) (defBody s_law_chain) (defScope s_law_chain) .none kV19 dc19 pm19 an19 cd19 ct19), sl19⟩)
    (c19 : PySem.W.codeIn K cd19 "_law_chain" = true)
    (k19 : PySem.W.keepIn K (.ref f19) = true)
    (a20 : PySem.W.nsIn K mainGlobals "_law_pairs" = some (some (.ref f20)))
    (l20 : K.lookup f20 = some ⟨oc20, od20, .func (PySem.W.fnOf "_law_pairs" "_law_pairs" (defArgs s_law_pairs) (defBody s_law_pairs) (defScope s_law_pairs) .none kV20 dc20 pm20 an20 cd20 ct20), sl20⟩)
    (c20 : PySem.W.codeIn K cd20 "_law_pairs" = true)
    (k20 : PySem.W.keepIn K (.ref f20) = true)
    (a21 : PySem.W.nsIn K mainGlobals "_law_left" = some (some (.ref f21)))
    (l21 : K.lookup f21 = some ⟨oc21, od21, .func (PySem.W.fnOf "_law_left" "_law_left" (defArgs s_law_left) (defBody s_law_left) (defScope s_law_left) .none kV21 dc21 pm21 an21 cd21 ct21), sl21⟩)
    (c21 : PySem.W.codeIn K cd21 "_law_left" = true)
    (k21 : PySem.W.keepIn K (.ref f21) = true)
    (a22 : PySem.W.nsIn K mainGlobals "_law_first_row" = some (some (.ref f22)))
    (l22 : K.lookup f22 = some ⟨oc22, od22, .func (PySem.W.fnOf "_law_first_row" "_law_first_row" (defArgs s_law_first_row) (defBody s_law_first_row) (defScope s_law_first_row) .none kV22 dc22 pm22 an22 cd22 ct22), sl22⟩)
    (c22 : PySem.W.codeIn K cd22 "_law_first_row" = true)
    (k22 : PySem.W.keepIn K (.ref f22) = true)
    (a23 : PySem.W.nsIn K mainGlobals "_law_judged" = some (some (.ref f23)))
    (l23 : K.lookup f23 = some ⟨oc23, od23, .func (PySem.W.fnOf "_law_judged" "_law_judged" (defArgs s_law_judged) (defBody s_law_judged) (defScope s_law_judged) .none kV23 dc23 pm23 an23 cd23 ct23), sl23⟩)
    (c23 : PySem.W.codeIn K cd23 "_law_judged" = true)
    (k23 : PySem.W.keepIn K (.ref f23) = true)
    (a24 : PySem.W.nsIn K mainGlobals "_law_refused" = some (some (.ref f24)))
    (l24 : K.lookup f24 = some ⟨oc24, od24, .func (PySem.W.fnOf "_law_refused" "_law_refused" (defArgs s_law_refused) (defBody s_law_refused) (defScope s_law_refused) .none kV24 dc24 pm24 an24 cd24 ct24), sl24⟩)
    (c24 : PySem.W.codeIn K cd24 "_law_refused" = true)
    (k24 : PySem.W.keepIn K (.ref f24) = true)
    (a25 : PySem.W.nsIn K mainGlobals "_law_second" = some (some (.ref f25)))
    (l25 : K.lookup f25 = some ⟨oc25, od25, .func (PySem.W.fnOf "_law_second" "_law_second" (defArgs s_law_second) (defBody s_law_second) (defScope s_law_second) .none kV25 dc25 pm25 an25 cd25 ct25), sl25⟩)
    (c25 : PySem.W.codeIn K cd25 "_law_second" = true)
    (k25 : PySem.W.keepIn K (.ref f25) = true)
    (a26 : PySem.W.nsIn K mainGlobals "law" = some (some (.ref f26)))
    (l26 : K.lookup f26 = some ⟨oc26, od26, .func (PySem.W.fnOf "law" "law" (defArgs s_law) (defBody s_law) (defScope s_law) .none kV26 dc26 pm26 an26 cd26 ct26), sl26⟩)
    (c26 : PySem.W.codeIn K cd26 "law" = true)
    (k26 : PySem.W.keepIn K (.ref f26) = true)
    (z_isinstance : PySem.W.nsIn K mainGlobals "isinstance" = some none)
    (z_str : PySem.W.nsIn K mainGlobals "str" = some none)
    (z_int : PySem.W.nsIn K mainGlobals "int" = some none)
    (z_bool : PySem.W.nsIn K mainGlobals "bool" = some none)
    (z_tuple : PySem.W.nsIn K mainGlobals "tuple" = some none)
    (z_list : PySem.W.nsIn K mainGlobals "list" = some none)
    (z_len : PySem.W.nsIn K mainGlobals "len" = some none)
    (z_all : PySem.W.nsIn K mainGlobals "all" = some none)
    (z_abs : PySem.W.nsIn K mainGlobals "abs" = some none)
    (z_range : PySem.W.nsIn K mainGlobals "range" = some none)
    (z_super : PySem.W.nsIn K mainGlobals "super" = some none)
    (z_sorted : PySem.W.nsIn K mainGlobals "sorted" = some none)
    (z_ValueError : PySem.W.nsIn K mainGlobals "ValueError" = some none)
    (gL : PySem.W.nsIn K mainGlobals "LETTERS" = some (some (.str sL tL)))
    (eL : sL = lets)
    (gX6 : PySem.W.nsIn K mainGlobals "MOST_OPERATIONS" = some (some (.int 6 tX6)))
    (gX1 : PySem.W.nsIn K mainGlobals "MOST_STATES" = some (some (.int 100 tX1)))
    (aN : PySem.W.nsIn K mainGlobals "BadNumber" = some (some (.ref BN)))
    (xN : K.lookup BN = some (excClassObj nmN qnN BN NN bsN bmN true snN sbN abN coN ddN m0N m1N m2N m3N m5N "ValueError.__new__"))
    (rN : PySem.HandSPX.refsVE bmN = true)
    (b1N : PySem.W.findIn K (.ref BN) "__setattr__" = some (some (.builtin "object.__setattr__")))
    (q1N : PySem.W.subIn K (.ref BN) (.type "BaseException") = some true)
    (q2N : PySem.W.isClsIn K BN = true)
    (q3N : PySem.W.typeIn K (.ref BN) = some (.type "type"))
    (b4N : PySem.W.keepIn K (.ref BN) = true)
    (b5N : PySem.W.findIn K (.ref BN) "__init__" = some (some (.ref feN)))
    (b6N : PySem.W.typeIn K (.ref feN) = some (.type "function"))
    (lN : K.lookup feN = some ⟨ocN, odN, .func (PySem.W.fnX "__init__" "BadNumber.__init__" (defArgs s_BadNumber_init) (defBody s_BadNumber_init) (defScope s_BadNumber_init) [("__class__", ccN)] .none kVN dcN pmN anN (.ref cdaN) ctN), slN⟩)
    (cN : PySem.W.codeIn K (.ref cdaN) "BadNumber.__init__" = true)
    (kN : PySem.W.keepIn K (.ref feN) = true)
    (eN : K.lookup ccN = some ⟨clN, cdN, .cell (some (.ref BN)), csN⟩)
    (b7N : PySem.W.ks_superIn K BN BN "__init__" = some (some (.builtin "ValueError.__init__")))
    (b8N : PySem.W.subIn K (.ref BN) (.type "ValueError") = some true)
    (b9 : PySem.W.nsIn K cStatics "thirdparty.any" = some none)
    (b14 : (l.prog.main.scope.names.lookup ("super" : Str)).isSome = false)
    (b31 : PySem.W.kitMeta "ValueError" = true)
    (p12 : PySem.W.specialIn K (.builtin "object.__class__") "__get__" = some (some (.builtin "getset_descriptor.__get__")))
    (p13 : PySem.W.takesIn K (.builtin "object.__class__") = some true)
    (b10N : PySem.W.mroIn K BN (.ref BN) = some true)
    (b11N : K.lookup cdaN = some ⟨cxN, ceN, .fields vsN, czN⟩)
    (b12N : vsN[2]? = some (.str fileN tfN))
    (b13N : ((l.prog.main.file : Str) == fileN) = true)
    (b15N : PySem.W.findIn K (.ref BN) "number" = some none)
    (b17N : PySem.W.findIn K (.ref BN) "__getattribute__" = some (some (.builtin "BaseException.__getattribute__")))
    (b18N : PySem.W.findIn K (.ref BN) "__getattr__" = some none)
    (b19N : PySem.W.hasDictIn K BN = true)
    (b25N : PySem.W.findIn K (.ref BN) "__class__" = some (some (.builtin "object.__class__")))
    (b26N : PySem.W.mroIn K BN (.type "object") = some true)
    (aB : PySem.W.nsIn K mainGlobals "BadTable" = some (some (.ref BT)))
    (xB : K.lookup BT = some (excClassObj nmB qnB BT NB bsB bmB true snB sbB abB coB ddB m0B m1B m2B m3B m5B "ValueError.__new__"))
    (rB : PySem.HandSPX.refsVE bmB = true)
    (b1B : PySem.W.findIn K (.ref BT) "__setattr__" = some (some (.builtin "object.__setattr__")))
    (q1B : PySem.W.subIn K (.ref BT) (.type "BaseException") = some true)
    (q2B : PySem.W.isClsIn K BT = true)
    (q3B : PySem.W.typeIn K (.ref BT) = some (.type "type"))
    (b4B : PySem.W.keepIn K (.ref BT) = true)
    (b5B : PySem.W.findIn K (.ref BT) "__init__" = some (some (.ref feB)))
    (b6B : PySem.W.typeIn K (.ref feB) = some (.type "function"))
    (lB : K.lookup feB = some ⟨ocB, odB, .func (PySem.W.fnX "__init__" "BadTable.__init__" (defArgs s_BadTable_init) (defBody s_BadTable_init) (defScope s_BadTable_init) [("__class__", ccB)] .none kVB dcB pmB anB (.ref cdaB) ctB), slB⟩)
    (cB : PySem.W.codeIn K (.ref cdaB) "BadTable.__init__" = true)
    (kB : PySem.W.keepIn K (.ref feB) = true)
    (eB : K.lookup ccB = some ⟨clB, cdB, .cell (some (.ref BT)), csB⟩)
    (b7B : PySem.W.ks_superIn K BT BT "__init__" = some (some (.builtin "ValueError.__init__")))
    (b8B : PySem.W.subIn K (.ref BT) (.type "ValueError") = some true)
    (b10B : PySem.W.mroIn K BT (.ref BT) = some true)
    (b11B : K.lookup cdaB = some ⟨cxB, ceB, .fields vsB, czB⟩)
    (b12B : vsB[2]? = some (.str fileB tfB))
    (b13B : ((l.prog.main.file : Str) == fileB) = true)
    (b15B : PySem.W.findIn K (.ref BT) "name" = some none)
    (b17B : PySem.W.findIn K (.ref BT) "__getattribute__" = some (some (.builtin "BaseException.__getattribute__")))
    (b18B : PySem.W.findIn K (.ref BT) "__getattr__" = some none)
    (b19B : PySem.W.hasDictIn K BT = true)
    (b25B : PySem.W.findIn K (.ref BT) "__class__" = some (some (.builtin "object.__class__")))
    (b26B : PySem.W.mroIn K BT (.type "object") = some true)
    (aQ : PySem.W.nsIn K mainGlobals "NoOperation" = some (some (.ref NO)))
    (xQ : K.lookup NO = some (excClassObj nmQ qnQ NO NQ bsQ bmQ true snQ sbQ abQ coQ ddQ m0Q m1Q m2Q m3Q m5Q "ValueError.__new__"))
    (rQ : PySem.HandSPX.refsVE bmQ = true)
    (b1Q : PySem.W.findIn K (.ref NO) "__setattr__" = some (some (.builtin "object.__setattr__")))
    (q1Q : PySem.W.subIn K (.ref NO) (.type "BaseException") = some true)
    (q2Q : PySem.W.isClsIn K NO = true)
    (q3Q : PySem.W.typeIn K (.ref NO) = some (.type "type"))
    (b4Q : PySem.W.keepIn K (.ref NO) = true)
    (b5Q : PySem.W.findIn K (.ref NO) "__init__" = some (some (.ref feQ)))
    (b6Q : PySem.W.typeIn K (.ref feQ) = some (.type "function"))
    (lQ : K.lookup feQ = some ⟨ocQ, odQ, .func (PySem.W.fnX "__init__" "NoOperation.__init__" (defArgs s_NoOperation_init) (defBody s_NoOperation_init) (defScope s_NoOperation_init) [("__class__", ccQ)] .none kVQ dcQ pmQ anQ (.ref cdaQ) ctQ), slQ⟩)
    (cQ : PySem.W.codeIn K (.ref cdaQ) "NoOperation.__init__" = true)
    (kQ : PySem.W.keepIn K (.ref feQ) = true)
    (eQ : K.lookup ccQ = some ⟨clQ, cdQ, .cell (some (.ref NO)), csQ⟩)
    (b7Q : PySem.W.ks_superIn K NO NO "__init__" = some (some (.builtin "ValueError.__init__")))
    (b8Q : PySem.W.subIn K (.ref NO) (.type "ValueError") = some true)
    (b10Q : PySem.W.mroIn K NO (.ref NO) = some true)
    (b11Q : K.lookup cdaQ = some ⟨cxQ, ceQ, .fields vsQ, czQ⟩)
    (b12Q : vsQ[2]? = some (.str fileQ tfQ))
    (b13Q : ((l.prog.main.file : Str) == fileQ) = true)
    (b15Q : PySem.W.findIn K (.ref NO) "name" = some none)
    (b17Q : PySem.W.findIn K (.ref NO) "__getattribute__" = some (some (.builtin "BaseException.__getattribute__")))
    (b18Q : PySem.W.findIn K (.ref NO) "__getattr__" = some none)
    (b19Q : PySem.W.hasDictIn K NO = true)
    (b25Q : PySem.W.findIn K (.ref NO) "__class__" = some (some (.builtin "object.__class__")))
    (b26Q : PySem.W.mroIn K NO (.type "object") = some true)
    (aH : PySem.W.nsIn K mainGlobals "OtherNames" = some (some (.ref ON)))
    (xH : K.lookup ON = some (excClassObj nmH qnH ON NH bsH bmH true snH sbH abH coH ddH m0H m1H m2H m3H m5H "ValueError.__new__"))
    (rH : PySem.HandSPX.refsVE bmH = true)
    (b1H : PySem.W.findIn K (.ref ON) "__setattr__" = some (some (.builtin "object.__setattr__")))
    (q1H : PySem.W.subIn K (.ref ON) (.type "BaseException") = some true)
    (q2H : PySem.W.isClsIn K ON = true)
    (q3H : PySem.W.typeIn K (.ref ON) = some (.type "type"))
    (b4H : PySem.W.keepIn K (.ref ON) = true)
    (b5H : PySem.W.findIn K (.ref ON) "__init__" = some (some (.ref feH)))
    (b6H : PySem.W.typeIn K (.ref feH) = some (.type "function"))
    (lH : K.lookup feH = some ⟨ocH, odH, .func (PySem.W.fnX "__init__" "OtherNames.__init__" (defArgs s_OtherNames_init) (defBody s_OtherNames_init) (defScope s_OtherNames_init) [("__class__", ccH)] .none kVH dcH pmH anH (.ref cdaH) ctH), slH⟩)
    (cH : PySem.W.codeIn K (.ref cdaH) "OtherNames.__init__" = true)
    (kH : PySem.W.keepIn K (.ref feH) = true)
    (eH : K.lookup ccH = some ⟨clH, cdH, .cell (some (.ref ON)), csH⟩)
    (b7H : PySem.W.ks_superIn K ON ON "__init__" = some (some (.builtin "ValueError.__init__")))
    (b8H : PySem.W.subIn K (.ref ON) (.type "ValueError") = some true)
    (b10H : PySem.W.mroIn K ON (.ref ON) = some true)
    (b11H : K.lookup cdaH = some ⟨cxH, ceH, .fields vsH, czH⟩)
    (b12H : vsH[2]? = some (.str fileH tfH))
    (b13H : ((l.prog.main.file : Str) == fileH) = true)
    (b17H : PySem.W.findIn K (.ref ON) "__getattribute__" = some (some (.builtin "BaseException.__getattribute__")))
    (b18H : PySem.W.findIn K (.ref ON) "__getattr__" = some none)
    (b19H : PySem.W.hasDictIn K ON = true)
    (b25H : PySem.W.findIn K (.ref ON) "__class__" = some (some (.builtin "object.__class__")))
    (b26H : PySem.W.mroIn K ON (.type "object") = some true)
    (aC : PySem.W.nsIn K mainGlobals "CoreError" = some (some (.ref CE)))
    (q1C : PySem.W.subIn K (.ref CE) (.type "BaseException") = some true)
    (q2C : PySem.W.isClsIn K CE = true)
    (q3C : PySem.W.typeIn K (.ref CE) = some (.type "type"))
    (aT : PySem.W.nsIn K mainGlobals "Table" = some (some (.ref TC)))
    (p1T : PySem.W.plainGet K TC Str.empty = true)
    (p2T : PySem.W.hasDictIn K TC = true)
    (p3T : PySem.W.plainOver K TC = true)
    (p4T : PySem.W.findIn K (.ref TC) "__setattr__" = some (some (.builtin "object.__setattr__")))
    (n0T : PySem.W.findIn K (.ref TC) "size" = some none)
    (n1T : PySem.W.findIn K (.ref TC) "first" = some none)
    (n2T : PySem.W.findIn K (.ref TC) "_rows" = some none)
    (p9T : PySem.W.keepIn K (.ref TC) = true)
    (p5T : PySem.W.makesIn K TC = true)
    (mTI : PySem.W.findIn K (.ref TC) "__init__" = some (some (.ref fTI)))
    (hTI : PySem.W.isFn K (.ref fTI) = true)
    (lTI : K.lookup fTI = some ⟨ocTI, odTI, .func (PySem.W.fnOf "__init__" "Table.__init__" (defArgs s_Table_init) (defBody s_Table_init) (defScope s_Table_init) (.ref TD) kVTI dcTI pmTI anTI cdTI ctTI), slTI⟩)
    (cTI : PySem.W.codeIn K cdTI "Table.__init__" = true)
    (kTI : PySem.W.keepIn K (.ref fTI) = true)
    (mTN : PySem.W.findIn K (.ref TC) "names" = some (some (.ref fTN)))
    (hTN : PySem.W.isFn K (.ref fTN) = true)
    (lTN : K.lookup fTN = some ⟨ocTN, odTN, .func (PySem.W.fnOf "names" "Table.names" (defArgs s_Table_names) (defBody s_Table_names) (defScope s_Table_names) .none kVTN dcTN pmTN anTN cdTN ctTN), slTN⟩)
    (cTN : PySem.W.codeIn K cdTN "Table.names" = true)
    (kTN : PySem.W.keepIn K (.ref fTN) = true)
    (mTO : PySem.W.findIn K (.ref TC) "__call__" = some (some (.ref fTO)))
    (hTO : PySem.W.isFn K (.ref fTO) = true)
    (lTO : K.lookup fTO = some ⟨ocTO, odTO, .func (PySem.W.fnOf "__call__" "Table.__call__" (defArgs s_Table_call) (defBody s_Table_call) (defScope s_Table_call) .none kVTO dcTO pmTO anTO cdTO ctTO), slTO⟩)
    (cTO : PySem.W.codeIn K cdTO "Table.__call__" = true)
    (kTO : PySem.W.keepIn K (.ref fTO) = true)
    (mTK : PySem.W.findIn K (.ref TC) "check_name" = some (some (.ref fTK)))
    (hTK : PySem.W.isFn K (.ref fTK) = true)
    (lTK : K.lookup fTK = some ⟨ocTK, odTK, .func (PySem.W.fnOf "check_name" "Table.check_name" (defArgs s_Table_check_name) (defBody s_Table_check_name) (defScope s_Table_check_name) .none kVTK dcTK pmTK anTK cdTK ctTK), slTK⟩)
    (cTK : PySem.W.codeIn K cdTK "Table.check_name" = true)
    (kTK : PySem.W.keepIn K (.ref fTK) = true)
    (iTO : PySem.W.fnIn K fTO = true)
    (vD : K.lookup TD = some ⟨tcD, dtD, .seq itsD ntD, sqD⟩)
    (uD : itsD = #[.int 0 tkD])
    (sOO : PySem.W.subIn K (.ref ON) (.ref ON) = some true)
    (sOC : PySem.W.subIn K (.ref ON) (.ref CE) = some true)
    (sON : PySem.W.subIn K (.ref ON) (.ref NO) = some false)
    (eOC : ((Value.ref ON) == (Value.ref CE)) = false)
    (eON : ((Value.ref ON) == (Value.ref NO)) = false) :
    ∃ fd : FuncData, (∀ (s : Shared) (v : Value), BindsTo s fd ⟨[v], []⟩ [("_law_script", v)]) ∧ ∀ base : Heap, K.In base → base.Ns mainGlobals mg → FnOk l.prog w K mg base CX0 13 fa fd ["_law_script"] (spLaw K) := by
  cases hfa.symm.trans (PySem.W.mg_of X G a26)
  subst eL uD
  refine ⟨PySem.W.fnOf "law" "law" (defArgs s_law) (defBody s_law) (defScope s_law) .none kV26 dc26 pm26 an26 cd26 ct26, fun s v => .of_eq rfl, fun base _ _ => ?_⟩
  have T1 : Bt mg tL tX1 tX6 := ⟨(PySem.W.mg_none_of X G z_isinstance), (PySem.W.mg_none_of X G z_str), (PySem.W.mg_none_of X G z_int), (PySem.W.mg_none_of X G z_bool), (PySem.W.mg_none_of X G z_tuple), (PySem.W.mg_none_of X G z_list), (PySem.W.mg_none_of X G z_len), (PySem.W.mg_none_of X G z_all), (PySem.W.mg_of X G gL), (PySem.W.mg_of X G gX1), (PySem.W.mg_of X G gX6)⟩
  have TG : BtG mg := ⟨(PySem.W.mg_none_of X G z_int), (PySem.W.mg_none_of X G z_len), (PySem.W.mg_none_of X G z_abs)⟩
  have TN_ : BtN mg := ⟨(PySem.W.mg_none_of X G z_int), (PySem.W.mg_none_of X G z_len), (PySem.W.mg_none_of X G z_range)⟩
  have TL_ : BtL mg := ⟨(PySem.W.mg_none_of X G z_list)⟩
  have TH_ : BtH mg := ⟨(PySem.W.mg_none_of X G z_len)⟩
  have TP_ : BtP mg := ⟨(PySem.W.mg_none_of X G z_len), (PySem.W.mg_none_of X G z_range), (PySem.W.mg_none_of X G z_int), (PySem.W.mg_none_of X G z_list)⟩
  have TM_ : BtM mg := ⟨(PySem.W.mg_none_of X G z_len), (PySem.W.mg_none_of X G z_sorted)⟩
  have TA_ : BtA mg := ⟨(PySem.W.mg_none_of X G z_sorted)⟩
  have TCh : BtCh mg := ⟨(PySem.W.mg_none_of X G z_len), (PySem.W.mg_none_of X G z_range), (PySem.W.mg_none_of X G z_int), (PySem.W.mg_none_of X G z_isinstance), (PySem.W.mg_none_of X G z_list)⟩
  have TPr : BtPr mg := ⟨(PySem.W.mg_none_of X G z_len), (PySem.W.mg_none_of X G z_isinstance), (PySem.W.mg_none_of X G z_tuple)⟩
  have TJ_ : BtJ mg := ⟨(PySem.W.mg_none_of X G z_len), (PySem.W.mg_none_of X G z_range), (PySem.W.mg_none_of X G z_isinstance), (PySem.W.mg_none_of X G z_bool), (PySem.W.mg_none_of X G z_list), (PySem.W.mg_none_of X G z_sorted)⟩
  have TZ_ : BtZ mg := ⟨(PySem.W.mg_none_of X G z_int), (PySem.W.mg_none_of X G z_len), (PySem.W.mg_none_of X G z_range), (PySem.W.mg_none_of X G z_list)⟩
  have OXN : OexC K BN := ⟨⟨nmN, qnN, NN, bsN, bmN, snN, sbN, abN, coN, ddN, m0N, m1N, m2N, m3N, m5N, xN, rN⟩, b1N, q1N, q3N, b4N⟩
  have ECN : ErrC K BN := ⟨OXN, b7N, b8N, b9, b10N⟩
  have CFN : CodeF K l.prog cdaN := ⟨⟨cxN, ceN, vsN, czN, fileN, tfN, b11N, b12N, b13N⟩, b14⟩
  have FXN : FunX K "__init__" "BadNumber.__init__" s_BadNumber_init feN _ ccN cdaN BN := ⟨⟨ocN, odN, kVN, dcN, pmN, anN, ctN, slN, rfl, lN, cN⟩, ⟨clN, cdN, csN, eN⟩, kN⟩
  have KTN : KitC K BN := ⟨q2N, b17N, b18N, q1N, b25N, p12, p13, b26N⟩
  have GXN := ok_BadNumber_init (P := l.prog) (w := w) (base := base) (mg := mg) (CX := L2.CX l.prog w) (Pf := (fun _ => True)) FXN ECN CFN (PySem.W.mg_none_of X G z_super) b15N
  have ERN : Er1 l.prog w K mg base "BadNumber" "number" BN feN _ ["self", "number"] (fun _ => True) := ⟨(PySem.W.mg_of X G aN), OXN, b5N, b6N, .all fun us hl => match us, hl with | [_, _], _ => rfl, GXN⟩
  have OXB : OexC K BT := ⟨⟨nmB, qnB, NB, bsB, bmB, snB, sbB, abB, coB, ddB, m0B, m1B, m2B, m3B, m5B, xB, rB⟩, b1B, q1B, q3B, b4B⟩
  have ECB : ErrC K BT := ⟨OXB, b7B, b8B, b9, b10B⟩
  have CFB : CodeF K l.prog cdaB := ⟨⟨cxB, ceB, vsB, czB, fileB, tfB, b11B, b12B, b13B⟩, b14⟩
  have FXB : FunX K "__init__" "BadTable.__init__" s_BadTable_init feB _ ccB cdaB BT := ⟨⟨ocB, odB, kVB, dcB, pmB, anB, ctB, slB, rfl, lB, cB⟩, ⟨clB, cdB, csB, eB⟩, kB⟩
  have KTB : KitC K BT := ⟨q2B, b17B, b18B, q1B, b25B, p12, p13, b26B⟩
  have GXB := ok_BadTable_init (P := l.prog) (w := w) (base := base) (mg := mg) (CX := L2.CX l.prog w) (Pf := (fun _ => True)) FXB ECB CFB (PySem.W.mg_none_of X G z_super) b15B
  have ERB : Er1 l.prog w K mg base "BadTable" "name" BT feB _ ["self", "name"] (fun _ => True) := ⟨(PySem.W.mg_of X G aB), OXB, b5B, b6B, .all fun us hl => match us, hl with | [_, _], _ => rfl, GXB⟩
  have OXQ : OexC K NO := ⟨⟨nmQ, qnQ, NQ, bsQ, bmQ, snQ, sbQ, abQ, coQ, ddQ, m0Q, m1Q, m2Q, m3Q, m5Q, xQ, rQ⟩, b1Q, q1Q, q3Q, b4Q⟩
  have ECQ : ErrC K NO := ⟨OXQ, b7Q, b8Q, b9, b10Q⟩
  have CFQ : CodeF K l.prog cdaQ := ⟨⟨cxQ, ceQ, vsQ, czQ, fileQ, tfQ, b11Q, b12Q, b13Q⟩, b14⟩
  have FXQ : FunX K "__init__" "NoOperation.__init__" s_NoOperation_init feQ _ ccQ cdaQ NO := ⟨⟨ocQ, odQ, kVQ, dcQ, pmQ, anQ, ctQ, slQ, rfl, lQ, cQ⟩, ⟨clQ, cdQ, csQ, eQ⟩, kQ⟩
  have KTQ : KitC K NO := ⟨q2Q, b17Q, b18Q, q1Q, b25Q, p12, p13, b26Q⟩
  have GXQ := ok_NoOperation_init (P := l.prog) (w := w) (base := base) (mg := mg) (CX := L2.CX l.prog w) (Pf := (fun _ => True)) FXQ ECQ CFQ (PySem.W.mg_none_of X G z_super) b15Q
  have ERQ : Er1 l.prog w K mg base "NoOperation" "name" NO feQ _ ["self", "name"] (fun _ => True) := ⟨(PySem.W.mg_of X G aQ), OXQ, b5Q, b6Q, .all fun us hl => match us, hl with | [_, _], _ => rfl, GXQ⟩
  have OXH : OexC K ON := ⟨⟨nmH, qnH, NH, bsH, bmH, snH, sbH, abH, coH, ddH, m0H, m1H, m2H, m3H, m5H, xH, rH⟩, b1H, q1H, q3H, b4H⟩
  have ECH : ErrC K ON := ⟨OXH, b7H, b8H, b9, b10H⟩
  have CFH : CodeF K l.prog cdaH := ⟨⟨cxH, ceH, vsH, czH, fileH, tfH, b11H, b12H, b13H⟩, b14⟩
  have FXH : FunX K "__init__" "OtherNames.__init__" s_OtherNames_init feH _ ccH cdaH ON := ⟨⟨ocH, odH, kVH, dcH, pmH, anH, ctH, slH, rfl, lH, cH⟩, ⟨clH, cdH, csH, eH⟩, kH⟩
  have EXH : ExcC K ON := ⟨b17H, b18H, q1H, b19H, b25H, p12, p13, b26H⟩
  have GXH := ok_OtherNames_init (P := l.prog) (w := w) (base := base) (mg := mg) (CX := L2.CX l.prog w) FXH ECH CFH (PySem.W.mg_none_of X G z_super)
  have ERH : Er0 l.prog w K mg base "OtherNames" ON feH _ ["self"] := ⟨(PySem.W.mg_of X G aH), OXH, b5H, b6H, .all fun us hl => match us, hl with | [_], _ => rfl, GXH⟩
  have TO_ : BtO K mg CE NO ON := ⟨(PySem.W.mg_none_of X G z_isinstance), (PySem.W.mg_none_of X G z_ValueError), (PySem.W.mg_of X G aC), (PySem.W.mg_of X G aH), (PySem.W.mg_of X G aQ), exm_sub q1H q2H q3H sOO, EXH, kit_sub eOC q2C q3C sOC, kit_ty b31 b8H, kit_sub eON q2Q q3Q sON⟩
  have TC_ : TbC K mg TC := ⟨(PySem.W.mg_of X G aT), ⟨p1T, p2T, p3T, p4T⟩, n0T, n1T, n2T⟩
  have F0 := fun_mk (st := s_is_name) l0 c0 k0
  have D0 : Df K mg "is_name" s_is_name ["value"] f0 _ := ⟨F0, PySem.W.mg_of X G a0, F0.binds (ps := ["value"]) fun _ _ _ _ _ _ us hl => match us, hl with | [_], _ => rfl⟩
  have F1 := fun_mk (st := s_is_below) l1 c1 k1
  have D1 : Df K mg "is_below" s_is_below ["value", "bound"] f1 _ := ⟨F1, PySem.W.mg_of X G a1, F1.binds (ps := ["value", "bound"]) fun _ _ _ _ _ _ us hl => match us, hl with | [_, _], _ => rfl⟩
  have F2 := fun_mk (st := s_is_number) l2 c2 k2
  have D2 : Df K mg "is_number" s_is_number ["value"] f2 _ := ⟨F2, PySem.W.mg_of X G a2, F2.binds (ps := ["value"]) fun _ _ _ _ _ _ us hl => match us, hl with | [_], _ => rfl⟩
  have F3 := fun_mk (st := s_is_pair) l3 c3 k3
  have D3 : Df K mg "is_pair" s_is_pair ["pair", "size"] f3 _ := ⟨F3, PySem.W.mg_of X G a3, F3.binds (ps := ["pair", "size"]) fun _ _ _ _ _ _ us hl => match us, hl with | [_, _], _ => rfl⟩
  have F4 := fun_mk (st := s_is_row) l4 c4 k4
  have D4 : Df K mg "is_row" s_is_row ["row"] f4 _ := ⟨F4, PySem.W.mg_of X G a4, F4.binds (ps := ["row"]) fun _ _ _ _ _ _ us hl => match us, hl with | [_], _ => rfl⟩
  have F5 := fun_mk (st := s_check_rows) l5 c5 k5
  have D5 : Df K mg "check_rows" s_check_rows ["rows"] f5 _ := ⟨F5, PySem.W.mg_of X G a5, F5.binds (ps := ["rows"]) fun _ _ _ _ _ _ us hl => match us, hl with | [_], _ => rfl⟩
  have F6 := fun_mk (st := s_row_to) l6 c6 k6
  have D6 : Df K mg "row_to" s_row_to ["pair", "back"] f6 _ := ⟨F6, PySem.W.mg_of X G a6, F6.binds (ps := ["pair", "back"]) fun _ _ _ _ _ _ us hl => match us, hl with | [_, _], _ => rfl⟩
  have F7 := fun_mk (st := s_meeting) l7 c7 k7
  have D7 : Df K mg "meeting" s_meeting ["a", "b"] f7 _ := ⟨F7, PySem.W.mg_of X G a7, F7.binds (ps := ["a", "b"]) fun _ _ _ _ _ _ us hl => match us, hl with | [_, _], _ => rfl⟩
  have F8 := fun_mk (st := s_parting) l8 c8 k8
  have D8 : Df K mg "parting" s_parting ["a", "b"] f8 _ := ⟨F8, PySem.W.mg_of X G a8, F8.binds (ps := ["a", "b"]) fun _ _ _ _ _ _ us hl => match us, hl with | [_, _], _ => rfl⟩
  have F9 := fun_mk (st := s_alike) l9 c9 k9
  have D9 : Df K mg "alike" s_alike ["a", "b"] f9 _ := ⟨F9, PySem.W.mg_of X G a9, F9.binds (ps := ["a", "b"]) fun _ _ _ _ _ _ us hl => match us, hl with | [_, _], _ => rfl⟩
  have F10 := fun_mk (st := s_likeness) l10 c10 k10
  have D10 : Df K mg "likeness" s_likeness ["a", "b"] f10 _ := ⟨F10, PySem.W.mg_of X G a10, F10.binds (ps := ["a", "b"]) fun _ _ _ _ _ _ us hl => match us, hl with | [_, _], _ => rfl⟩
  have F11 := fun_mk (st := s_law_mixed) l11 c11 k11
  have D11 : Df K mg "_law_mixed" s_law_mixed ["_law_cell", "_law_k"] f11 _ := ⟨F11, PySem.W.mg_of X G a11, F11.binds (ps := ["_law_cell", "_law_k"]) fun _ _ _ _ _ _ us hl => match us, hl with | [_, _], _ => rfl⟩
  have F12 := fun_mk (st := s_law_draws) l12 c12 k12
  have D12 : Df K mg "_law_draws" s_law_draws ["_law_script", "_law_at", "_law_bounds"] f12 _ := ⟨F12, PySem.W.mg_of X G a12, F12.binds (ps := ["_law_script", "_law_at", "_law_bounds"]) fun _ _ _ _ _ _ us hl => match us, hl with | [_, _, _], _ => rfl⟩
  have F13 := fun_mk (st := s_law_names) l13 c13 k13
  have D13 : Df K mg "_law_names" s_law_names ["_law_script", "_law_at", "_law_many"] f13 _ := ⟨F13, PySem.W.mg_of X G a13, F13.binds (ps := ["_law_script", "_law_at", "_law_many"]) fun _ _ _ _ _ _ us hl => match us, hl with | [_, _, _], _ => rfl⟩
  have F14 := fun_mk (st := s_law_rows) l14 c14 k14
  have D14 : Df K mg "_law_rows" s_law_rows ["_law_script", "_law_at", "_law_names_here", "_law_size", "_law_most"] f14 _ := ⟨F14, PySem.W.mg_of X G a14, F14.binds (ps := ["_law_script", "_law_at", "_law_names_here", "_law_size", "_law_most"]) fun _ _ _ _ _ _ us hl => match us, hl with | [_, _, _, _, _], _ => rfl⟩
  have F15 := fun_mk (st := s_law_copy) l15 c15 k15
  have D15 : Df K mg "_law_copy" s_law_copy ["_law_names_here", "_law_rows_here"] f15 _ := ⟨F15, PySem.W.mg_of X G a15, F15.binds (ps := ["_law_names_here", "_law_rows_here"]) fun _ _ _ _ _ _ us hl => match us, hl with | [_, _], _ => rfl⟩
  have F16 := fun_mk (st := s_law_is_whole) l16 c16 k16
  have D16 : Df K mg "_law_is_whole" s_law_is_whole ["_law_told", "_law_due"] f16 _ := ⟨F16, PySem.W.mg_of X G a16, F16.binds (ps := ["_law_told", "_law_due"]) fun _ _ _ _ _ _ us hl => match us, hl with | [_, _], _ => rfl⟩
  have F17 := fun_mk (st := s_law_is_pair) l17 c17 k17
  have D17 : Df K mg "_law_is_pair" s_law_is_pair ["_law_told", "_law_due"] f17 _ := ⟨F17, PySem.W.mg_of X G a17, F17.binds (ps := ["_law_told", "_law_due"]) fun _ _ _ _ _ _ us hl => match us, hl with | [_, _], _ => rfl⟩
  have F18 := fun_mk (st := s_law_copies) l18 c18 k18
  have D18 : Df K mg "_law_copies" s_law_copies ["_law_script", "_law_at", "_law_names_here", "_law_rows_here", "_law_start"] f18 _ := ⟨F18, PySem.W.mg_of X G a18, F18.binds (ps := ["_law_script", "_law_at", "_law_names_here", "_law_rows_here", "_law_start"]) fun _ _ _ _ _ _ us hl => match us, hl with | [_, _, _, _, _], _ => rfl⟩
  have F19 := fun_mk (st := s_law_chain) l19 c19 k19
  have D19 : Df K mg "_law_chain" s_law_chain ["_law_names_here", "_law_size", "_law_answer", "_law_spot"] f19 _ := ⟨F19, PySem.W.mg_of X G a19, F19.binds (ps := ["_law_names_here", "_law_size", "_law_answer", "_law_spot"]) fun _ _ _ _ _ _ us hl => match us, hl with | [_, _, _, _], _ => rfl⟩
  have F20 := fun_mk (st := s_law_pairs) l20 c20 k20
  have D20 : Df K mg "_law_pairs" s_law_pairs ["_law_rows_here", "_law_last", "_law_names_here", "_law_start"] f20 _ := ⟨F20, PySem.W.mg_of X G a20, F20.binds (ps := ["_law_rows_here", "_law_last", "_law_names_here", "_law_start"]) fun _ _ _ _ _ _ us hl => match us, hl with | [_, _, _, _], _ => rfl⟩
  have F21 := fun_mk (st := s_law_left) l21 c21 k21
  have D21 : Df K mg "_law_left" s_law_left ["_law_rows_here", "_law_last", "_law_names_here", "_law_pairs_here"] f21 _ := ⟨F21, PySem.W.mg_of X G a21, F21.binds (ps := ["_law_rows_here", "_law_last", "_law_names_here", "_law_pairs_here"]) fun _ _ _ _ _ _ us hl => match us, hl with | [_, _, _, _], _ => rfl⟩
  have F22 := fun_mk (st := s_law_first_row) l22 c22 k22
  have D22 : Df K mg "_law_first_row" s_law_first_row ["_law_row", "_law_rows_here", "_law_last", "_law_names_here", "_law_left_here", "_law_start"] f22 _ := ⟨F22, PySem.W.mg_of X G a22, F22.binds (ps := ["_law_row", "_law_rows_here", "_law_last", "_law_names_here", "_law_left_here", "_law_start"]) fun _ _ _ _ _ _ us hl => match us, hl with | [_, _, _, _, _, _], _ => rfl⟩
  have F23 := fun_mk (st := s_law_judged) l23 c23 k23
  have D23 : Df K mg "_law_judged" s_law_judged ["_law_a", "_law_b", "_law_rows_here", "_law_last", "_law_start", "_law_names_here"] f23 _ := ⟨F23, PySem.W.mg_of X G a23, F23.binds (ps := ["_law_a", "_law_b", "_law_rows_here", "_law_last", "_law_start", "_law_names_here"]) fun _ _ _ _ _ _ us hl => match us, hl with | [_, _, _, _, _, _], _ => rfl⟩
  have F24 := fun_mk (st := s_law_refused) l24 c24 k24
  have D24 : Df K mg "_law_refused" s_law_refused ["_law_way", "_law_one", "_law_two"] f24 _ := ⟨F24, PySem.W.mg_of X G a24, F24.binds (ps := ["_law_way", "_law_one", "_law_two"]) fun _ _ _ _ _ _ us hl => match us, hl with | [_, _, _], _ => rfl⟩
  have F25 := fun_mk (st := s_law_second) l25 c25 k25
  have D25 : Df K mg "_law_second" s_law_second ["_law_script", "_law_d", "_law_names_here", "_law_rows_here", "_law_start"] f25 _ := ⟨F25, PySem.W.mg_of X G a25, F25.binds (ps := ["_law_script", "_law_d", "_law_names_here", "_law_rows_here", "_law_start"]) fun _ _ _ _ _ _ us hl => match us, hl with | [_, _, _, _, _], _ => rfl⟩
  have F26 := fun_mk (st := s_law) l26 c26 k26
  have D26 : Df K mg "law" s_law ["_law_script"] fa _ := ⟨F26, PySem.W.mg_of X G a26, F26.binds (ps := ["_law_script"]) fun _ _ _ _ _ _ us hl => match us, hl with | [_], _ => rfl⟩
  have FTI : FunD K "__init__" "Table.__init__" (defArgs s_Table_init) (defBody s_Table_init) (defScope s_Table_init) [V.int 0] [] fTI _ := ⟨⟨ocTI, odTI, .ref TD, kVTI, dcTI, pmTI, anTI, cdTI, ctTI, slTI, rfl, lTI, cTI, .inr ⟨fun z => (nomatch z), TD, _, [.int 0 tkD], ntD, rfl, vD, rfl, .cons ⟨_, rfl⟩ .nil⟩, .inl rfl⟩, kTI⟩
  obtain ⟨ds1, hds1, bI⟩ := FTI.binds1 (ps := ["self", "rows", "first"]) 3 1 (fun z => nomatch z) rfl fun T kV doc pm an cdv ct us its h1 h2 => match us, h1, its, h2 with | [_, _, _], _, [_], _ => ⟨_, rfl, rfl⟩
  cases hds1
  have FTN := fun_mk (st := s_Table_names) lTN cTN kTN
  have bTN : Binds K _ ["self"] [] := FTN.binds (ps := ["self"]) fun _ _ _ _ _ _ us hl => match us, hl with | [_], _ => rfl
  have FTO := fun_mk (st := s_Table_call) lTO cTO kTO
  have bTO : Binds K _ ["self", "name", "state"] [] := FTO.binds (ps := ["self", "name", "state"]) fun _ _ _ _ _ _ us hl => match us, hl with | [_, _, _], _ => rfl
  have FTK := fun_mk (st := s_Table_check_name) lTK cTK kTK
  have bTK : Binds K _ ["self", "name"] [] := FTK.binds (ps := ["self", "name"]) fun _ _ _ _ _ _ us hl => match us, hl with | [_, _], _ => rfl
  have MT : Mk K TC fTI := ⟨p5T, mTI, hTI, p9T⟩
  have MEN : Meth K TC _ fTN := ⟨mTN, hTN, kTN⟩
  have MEK : Meth K TC _ fTK := ⟨mTK, hTK, kTK⟩
  have CO : CallO K TC fTO := ⟨mTO, hTO, iTO⟩
  have G0 := ok_is_name (P := l.prog) (w := w) (base := base) D0 T1
  have G1 := ok_is_below (P := l.prog) (w := w) (base := base) D1 T1
  have G2 := ok_is_number (P := l.prog) (w := w) (base := base) D2 T1 D1 G1
  have G3 := ok_is_pair (P := l.prog) (w := w) (base := base) D3 T1 D2 G2 D1 G1
  have G4 := ok_is_row (P := l.prog) (w := w) (base := base) D4 T1 D3 G3
  have G5 := ok_check_rows (P := l.prog) (w := w) (base := base) D5 T1 ERB D0 G0 D4 G4
  have GTI := ok_Table_init (P := l.prog) (w := w) (base := base) FTI T1 TC_ ERB D5 G5 D1 G1
  have GTN := ok_Table_names (P := l.prog) (w := w) (base := base) FTN T1 TC_
  have GTK := ok_Table_check_name (P := l.prog) (w := w) (base := base) FTK T1 TC_ ERQ D0 G0
  have GTO := ok_Table_call (P := l.prog) (w := w) (base := base) FTO T1 TC_ ERN MEK bTK GTK D1 G1
  have G6 := ok_row_to (P := l.prog) (w := w) (base := base) D6 
  have G7 := ok_meeting (P := l.prog) (w := w) (base := base) D7 TM_ TC_ ERH D6 G6 MEN bTN GTN CO bTO GTO
  have G8 := ok_parting (P := l.prog) (w := w) (base := base) D8 D7 G7
  have G9 := ok_alike (P := l.prog) (w := w) (base := base) D9 D8 G8
  have G10 := ok_likeness (P := l.prog) (w := w) (base := base) D10 TA_ D7 G7
  have G11 := ok_law_mixed (P := l.prog) (w := w) (base := base) D11 TG
  have G12 := ok_law_draws (P := l.prog) (w := w) (base := base) D12 TG D11 G11
  have G13 := ok_law_names (P := l.prog) (w := w) (base := base) D13 TN_ D12 G12
  have G14 := ok_law_rows (P := l.prog) (w := w) (base := base) D14 TN_ D12 G12
  have G15 := ok_law_copy2 (P := l.prog) (w := w) (base := base) D15 TL_
  have G16 := ok_law_is_whole (P := l.prog) (w := w) (base := base) D16 TN_ (PySem.W.mg_none_of X G z_isinstance) (PySem.W.mg_none_of X G z_bool)
  have G17 := ok_law_is_pair (P := l.prog) (w := w) (base := base) D17 TPr D16 G16
  have G18 := ok_law_copies (P := l.prog) (w := w) (base := base) D18 TP_ D12 G12
  have G19 := ok_law_chain (P := l.prog) (w := w) (base := base) D19 TCh
  have G20 := ok_law_pairs (P := l.prog) (w := w) (base := base) D20 TH_
  have G21 := ok_law_left (P := l.prog) (w := w) (base := base) D21 TCh
  have G22 := ok_law_first_row (P := l.prog) (w := w) (base := base) D22 TCh
  have G23 := ok_law_judged (P := l.prog) (w := w) (base := base) D23 TJ_ D9 G9 D8 G8 D10 G10 D20 G20 D21 G21 D22 G22 D17 G17
  have G24 := ok_law_refused (P := l.prog) (w := w) (base := base) D24 TO_ D9 G9 D8 G8 D10 G10
  have G25 := ok_law_second (P := l.prog) (w := w) (base := base) D25 TP_ D14 G14 D18 G18
  exact ok_law (P := l.prog) (w := w) (base := base) D26 TZ_ TC_ MT bI GTI D12 G12 D13 G13 D14 G14 D15 G15 D25 G25 D19 G19 D23 G23 D24 G24
theorem walk {l : PySem.W.OpenLaw} {q : Program} {loose : List Str} {XP : (Str → Option Value) → Heap → Prop} {YP : World → Heap → Prop} {d : DefRec} {K : Params → PySem.W.Frag} (hn : l.most = some 63) (hdf : d.params.defaults = [])
    (hY : ∀ (w : World) (h : Heap), YP w h → (K w.params).In h)
    (F : ∀ (w : World) (mg : Str → Option Value) (fa : Addr) (h : Heap), (K w.params).In h → h.Ns mainGlobals mg → mg d.name = some (.ref fa) →
      ∃ fd : FuncData, (∀ (s : Shared) (u : Value), BindsTo s fd ⟨[u], []⟩ [("_law_script", u)]) ∧ ∀ base : Heap, (K w.params).In base → base.Ns mainGlobals mg → FnOk l.prog w (K w.params) mg base CX0 13 fa fd ["_law_script"] (spLaw (K w.params))) :
    PySem.W.WalkO q loose XP YP l.row.toRowW d [] (fun f vs => PySem.call f vs) :=
  L2.walk_of (n := 63) (k := 13) (x := "_law_script") (CX := fun _ => CX0) (sp := fun w => spLaw (K w.params)) hn (by decide) hdf ⟨rfl, by decide, by decide⟩ hY F (fun _ _ a ns hl _ hS => ⟨a, ns, rfl, hS, hl, fun _ _ => rfl⟩) fun _ _ _ _ _ z => z
end My
open PySem PySem.W PyProof.Rows in
set_option maxRecDepth 100000 in
set_option maxHeartbeats 0 in
theorem PySem.Challenge.cw_coretower_k16_whole_parting_rows_holds : PySem.Challenge.rw_coretower_k16_whole_parting_rows.Holds := by
  w_on; o_law; k_head; (case hw => w_witness2)
  k_fill
  refine My.walk (l := PySem.Challenge.rw_coretower_k16_whole_parting_rows) rfl rfl (fun w h Y => PySem.W.kIn_of Y) ?F
  case F =>
    intro w mg fa h KX G hmg
    refine' My.all_mk KX G hmg ?a0 ?l0 ?c0 ?k0 ?a1 ?l1 ?c1 ?k1 ?a2 ?l2 ?c2 ?k2 ?a3 ?l3 ?c3 ?k3 ?a4 ?l4 ?c4 ?k4 ?a5 ?l5 ?c5 ?k5 ?a6 ?l6 ?c6 ?k6 ?a7 ?l7 ?c7 ?k7 ?a8 ?l8 ?c8 ?k8 ?a9 ?l9 ?c9 ?k9 ?a10 ?l10 ?c10 ?k10 ?a11 ?l11 ?c11 ?k11 ?a12 ?l12 ?c12 ?k12 ?a13 ?l13 ?c13 ?k13 ?a14 ?l14 ?c14 ?k14 ?a15 ?l15 ?c15 ?k15 ?a16 ?l16 ?c16 ?k16 ?a17 ?l17 ?c17 ?k17 ?a18 ?l18 ?c18 ?k18 ?a19 ?l19 ?c19 ?k19 ?a20 ?l20 ?c20 ?k20 ?a21 ?l21 ?c21 ?k21 ?a22 ?l22 ?c22 ?k22 ?a23 ?l23 ?c23 ?k23 ?a24 ?l24 ?c24 ?k24 ?a25 ?l25 ?c25 ?k25 ?a26 ?l26 ?c26 ?k26 ?z_isinstance ?z_str ?z_int ?z_bool ?z_tuple ?z_list ?z_len ?z_all ?z_abs ?z_range ?z_super ?z_sorted ?z_ValueError ?gL ?eL ?gX6 ?gX1 ?aN ?xN ?rN ?b1N ?q1N ?q2N ?q3N ?b4N ?b5N ?b6N ?lN ?cN ?kN ?eN ?b7N ?b8N ?b9 ?b14 ?b31 ?p12 ?p13 ?b10N ?b11N ?b12N ?b13N ?b15N ?b17N ?b18N ?b19N ?b25N ?b26N ?aB ?xB ?rB ?b1B ?q1B ?q2B ?q3B ?b4B ?b5B ?b6B ?lB ?cB ?kB ?eB ?b7B ?b8B ?b10B ?b11B ?b12B ?b13B ?b15B ?b17B ?b18B ?b19B ?b25B ?b26B ?aQ ?xQ ?rQ ?b1Q ?q1Q ?q2Q ?q3Q ?b4Q ?b5Q ?b6Q ?lQ ?cQ ?kQ ?eQ ?b7Q ?b8Q ?b10Q ?b11Q ?b12Q ?b13Q ?b15Q ?b17Q ?b18Q ?b19Q ?b25Q ?b26Q ?aH ?xH ?rH ?b1H ?q1H ?q2H ?q3H ?b4H ?b5H ?b6H ?lH ?cH ?kH ?eH ?b7H ?b8H ?b10H ?b11H ?b12H ?b13H ?b17H ?b18H ?b19H ?b25H ?b26H ?aC ?q1C ?q2C ?q3C ?aT ?p1T ?p2T ?p3T ?p4T ?n0T ?n1T ?n2T ?p9T ?p5T ?mTI ?hTI ?lTI ?cTI ?kTI ?mTN ?hTN ?lTN ?cTN ?kTN ?mTO ?hTO ?lTO ?cTO ?kTO ?mTK ?hTK ?lTK ?cTK ?kTK ?iTO ?vD ?uD ?sOO ?sOC ?sON ?eOC ?eON
    (case a0 => k_is)
    (case l0 => k_is)
    (case c0 => k_is)
    (case k0 => k_is)
    (case a1 => k_is)
    (case l1 => k_is)
    (case c1 => k_is)
    (case k1 => k_is)
    (case a2 => k_is)
    (case l2 => k_is)
    (case c2 => k_is)
    (case k2 => k_is)
    (case a3 => k_is)
    (case l3 => k_is)
    (case c3 => k_is)
    (case k3 => k_is)
    (case a4 => k_is)
    (case l4 => k_is)
    (case c4 => k_is)
    (case k4 => k_is)
    (case a5 => k_is)
    (case l5 => k_is)
    (case c5 => k_is)
    (case k5 => k_is)
    (case a6 => k_is)
    (case l6 => k_is)
    (case c6 => k_is)
    (case k6 => k_is)
    (case a7 => k_is)
    (case l7 => k_is)
    (case c7 => k_is)
    (case k7 => k_is)
    (case a8 => k_is)
    (case l8 => k_is)
    (case c8 => k_is)
    (case k8 => k_is)
    (case a9 => k_is)
    (case l9 => k_is)
    (case c9 => k_is)
    (case k9 => k_is)
    (case a10 => k_is)
    (case l10 => k_is)
    (case c10 => k_is)
    (case k10 => k_is)
    (case a11 => k_is)
    (case l11 => k_is)
    (case c11 => k_is)
    (case k11 => k_is)
    (case a12 => k_is)
    (case l12 => k_is)
    (case c12 => k_is)
    (case k12 => k_is)
    (case a13 => k_is)
    (case l13 => k_is)
    (case c13 => k_is)
    (case k13 => k_is)
    (case a14 => k_is)
    (case l14 => k_is)
    (case c14 => k_is)
    (case k14 => k_is)
    (case a15 => k_is)
    (case l15 => k_is)
    (case c15 => k_is)
    (case k15 => k_is)
    (case a16 => k_is)
    (case l16 => k_is)
    (case c16 => k_is)
    (case k16 => k_is)
    (case a17 => k_is)
    (case l17 => k_is)
    (case c17 => k_is)
    (case k17 => k_is)
    (case a18 => k_is)
    (case l18 => k_is)
    (case c18 => k_is)
    (case k18 => k_is)
    (case a19 => k_is)
    (case l19 => k_is)
    (case c19 => k_is)
    (case k19 => k_is)
    (case a20 => k_is)
    (case l20 => k_is)
    (case c20 => k_is)
    (case k20 => k_is)
    (case a21 => k_is)
    (case l21 => k_is)
    (case c21 => k_is)
    (case k21 => k_is)
    (case a22 => k_is)
    (case l22 => k_is)
    (case c22 => k_is)
    (case k22 => k_is)
    (case a23 => k_is)
    (case l23 => k_is)
    (case c23 => k_is)
    (case k23 => k_is)
    (case a24 => k_is)
    (case l24 => k_is)
    (case c24 => k_is)
    (case k24 => k_is)
    (case a25 => k_is)
    (case l25 => k_is)
    (case c25 => k_is)
    (case k25 => k_is)
    (case a26 => k_is)
    (case l26 => k_is)
    (case c26 => k_is)
    (case k26 => k_is)
    (case z_isinstance => k_is)
    (case z_str => k_is)
    (case z_int => k_is)
    (case z_bool => k_is)
    (case z_tuple => k_is)
    (case z_list => k_is)
    (case z_len => k_is)
    (case z_all => k_is)
    (case z_abs => k_is)
    (case z_range => k_is)
    (case z_super => k_is)
    (case z_sorted => k_is)
    (case z_ValueError => k_is)
    (case gL => k_is)
    (case eL => decide +kernel)
    (case gX6 => k_is)
    (case gX1 => k_is)
    (case aN => k_is)
    (case xN => k_is)
    (case rN => decide +kernel)
    (case b1N => k_is)
    (case q1N => k_is)
    (case q2N => k_is)
    (case q3N => k_is)
    (case b4N => k_is)
    (case b5N => k_is)
    (case b6N => k_is)
    (case lN => k_is)
    (case cN => k_is)
    (case kN => k_is)
    (case eN => k_is)
    (case b7N => ks_is)
    (case b8N => k_is)
    (case b9 => k_is)
    (case b14 => first | rfl | decide +kernel)
    (case b31 => decide +kernel)
    (case p12 => k_is)
    (case p13 => k_is)
    (case b10N => k_is)
    (case b11N => k_is)
    (case b12N => rfl)
    (case b13N => first | rfl | decide +kernel)
    (case b15N => k_is)
    (case b17N => k_is)
    (case b18N => k_is)
    (case b19N => k_is)
    (case b25N => k_is)
    (case b26N => k_is)
    (case aB => k_is)
    (case xB => k_is)
    (case rB => decide +kernel)
    (case b1B => k_is)
    (case q1B => k_is)
    (case q2B => k_is)
    (case q3B => k_is)
    (case b4B => k_is)
    (case b5B => k_is)
    (case b6B => k_is)
    (case lB => k_is)
    (case cB => k_is)
    (case kB => k_is)
    (case eB => k_is)
    (case b7B => ks_is)
    (case b8B => k_is)
    (case b10B => k_is)
    (case b11B => k_is)
    (case b12B => rfl)
    (case b13B => first | rfl | decide +kernel)
    (case b15B => k_is)
    (case b17B => k_is)
    (case b18B => k_is)
    (case b19B => k_is)
    (case b25B => k_is)
    (case b26B => k_is)
    (case aQ => k_is)
    (case xQ => k_is)
    (case rQ => decide +kernel)
    (case b1Q => k_is)
    (case q1Q => k_is)
    (case q2Q => k_is)
    (case q3Q => k_is)
    (case b4Q => k_is)
    (case b5Q => k_is)
    (case b6Q => k_is)
    (case lQ => k_is)
    (case cQ => k_is)
    (case kQ => k_is)
    (case eQ => k_is)
    (case b7Q => ks_is)
    (case b8Q => k_is)
    (case b10Q => k_is)
    (case b11Q => k_is)
    (case b12Q => rfl)
    (case b13Q => first | rfl | decide +kernel)
    (case b15Q => k_is)
    (case b17Q => k_is)
    (case b18Q => k_is)
    (case b19Q => k_is)
    (case b25Q => k_is)
    (case b26Q => k_is)
    (case aH => k_is)
    (case xH => k_is)
    (case rH => decide +kernel)
    (case b1H => k_is)
    (case q1H => k_is)
    (case q2H => k_is)
    (case q3H => k_is)
    (case b4H => k_is)
    (case b5H => k_is)
    (case b6H => k_is)
    (case lH => k_is)
    (case cH => k_is)
    (case kH => k_is)
    (case eH => k_is)
    (case b7H => ks_is)
    (case b8H => k_is)
    (case b10H => k_is)
    (case b11H => k_is)
    (case b12H => rfl)
    (case b13H => first | rfl | decide +kernel)
    (case b17H => k_is)
    (case b18H => k_is)
    (case b19H => k_is)
    (case b25H => k_is)
    (case b26H => k_is)
    (case aC => k_is)
    (case q1C => k_is)
    (case q2C => k_is)
    (case q3C => k_is)
    (case aT => k_is)
    (case p1T => k_is)
    (case p2T => k_is)
    (case p3T => k_is)
    (case p4T => k_is)
    (case n0T => k_is)
    (case n1T => k_is)
    (case n2T => k_is)
    (case p9T => k_is)
    (case p5T => k_is)
    (case mTI => k_is)
    (case hTI => k_is)
    (case lTI => k_is)
    (case cTI => k_is)
    (case kTI => k_is)
    (case mTN => k_is)
    (case hTN => k_is)
    (case lTN => k_is)
    (case cTN => k_is)
    (case kTN => k_is)
    (case mTO => k_is)
    (case hTO => k_is)
    (case lTO => k_is)
    (case cTO => k_is)
    (case kTO => k_is)
    (case mTK => k_is)
    (case hTK => k_is)
    (case lTK => k_is)
    (case cTK => k_is)
    (case kTK => k_is)
    (case iTO => k_is)
    (case vD => k_is)
    (case uD => exact rfl)
    (case sOO => first | rfl | k_is)
    (case sOC => first | rfl | k_is)
    (case sON => first | rfl | k_is)
    (case eOC => decide +kernel)
    (case eON => decide +kernel)

