/- Plain functions on responses: each status's reason. No condition. -/
import Derived.Test.YtehgigfngelkjaaDoorCkPure
import Derived.Test.YtehgigfngelkjaaDoorReqPure
namespace Go.Proofs.YtehgigfngelkjaaDoor
namespace Rsp

def t200 : List UInt8 := [79, 75]
def t302 : List UInt8 := [70, 111, 117, 110, 100]
def t400 : List UInt8 := [66, 97, 100, 32, 82, 101, 113, 117, 101, 115, 116]
def t403 : List UInt8 := [70, 111, 114, 98, 105, 100, 100, 101, 110]
def t404 : List UInt8 := [78, 111, 116, 32, 70, 111, 117, 110, 100]
def t405 : List UInt8 := [77, 101, 116, 104, 111, 100, 32, 78, 111, 116, 32, 65, 108, 108, 111, 119, 101, 100]
def t503 : List UInt8 := [83, 101, 114, 118, 105, 99, 101, 32, 85, 110, 97, 118, 97, 105, 108, 97, 98, 108, 101]
def reason (s : Int) : List UInt8 :=
  if s = 200 then t200 else if s = 302 then t302 else if s = 400 then t400 else if s = 403 then t403 else if s = 404 then t404 else if s = 405 then t405 else if s = 503 then t503 else []
end Rsp
end Go.Proofs.YtehgigfngelkjaaDoor
